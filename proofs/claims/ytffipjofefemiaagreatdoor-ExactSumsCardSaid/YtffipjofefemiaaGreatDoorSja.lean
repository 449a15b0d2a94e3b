/- Rows of the call's own, what a curve is built of; the contracts of SameCurve, bends, Shift and of the reference's Normal and Shift. -/
import Derived.Deep.AppendLies
import Derived.Laws.OwnMore
import Derived.Test.YtffipjofefemiaaGreatDoorCvm
import Derived.Test.YtffipjofefemiaaGreatDoorCrv
import Derived.Test.YtffipjofefemiaaGreatDoorElc
import Derived.Test.YtffipjofefemiaaGreatDoorSlp
import Derived.Test.YtffipjofefemiaaGreatDoorLat
import Derived.Test.YtffipjofefemiaaGreatDoorCkq
namespace Go.Proofs.YtffipjofefemiaaGreatDoor
open Go

/-- Not a limb. -/
def NoU (u : Value) : Prop := ∀ n : Int, u ≠ .int .u16 n
theorem noU_i64 (n : Int) : NoU (.int .i64 n) := fun _ h => by injection h with h _; cases h
theorem noU_bool (b : Bool) : NoU (.bool b) := fun _ h => by cases h
theorem noU_slice (A : Option Addr) (n c : Nat) : NoU (.slice A n c) := fun _ h => by cases h
/-- The block of row r holds no limb. -/
def Nu (w : World) (r : Option Nat) : Prop := ∀ g cur T fz, r = some g → w.heap[g]? = some (.cells cur T fz) → ∀ u ∈ cur, NoU u
/-- A row of the call's own in which no limb lies. -/
structure Ow (w : World) (base : Nat) (e : TypeId) (size : Nat) (v : Value) (n : Nat) (xs : List Value) : Prop where
  own : w.ownsRow base e size v n xs
  all : Nu w v.ownBlock
theorem Nu.none (w : World) : Nu w none := fun _ _ _ _ h => by cases h
theorem ow_nil (w : World) (base : Nat) (e : TypeId) (size : Nat) : Ow w base e size (.slice none 0 0) 0 [] := ⟨World.ownsRow_nil _ _ _ _, Nu.none _⟩
theorem Nu.kept {w w' : World} {r row : Option Nat} (h : Nu w r) (hl : ∀ g, r = some g → g < w.heap.size) (hg : w.grownBy w' row) (hne : r = Option.none ∨ r ≠ row) : Nu w' r := by
  intro g cur T fz e hc
  rcases hne with h0 | h0
  · rw [h0] at e; cases e
  · rw [hg.block g (hl g e) (by rw [← e]; exact h0)] at hc
    exact h g cur T fz e hc
theorem Ow.kept {w w' : World} {base : Nat} {e : TypeId} {size n : Nat} {v : Value} {xs : List Value} {row : Option Nat} (h : Ow w base e size v n xs) (hg : w.grownBy w' row) (hne : v.ownBlock = none ∨ v.ownBlock ≠ row) : Ow w' base e size v n xs :=
  ⟨h.own.kept hg hne, h.all.kept (fun g hv => (h.own.lt g hv).2) hg hne⟩
theorem noU_row {l1 l2 l3 : List Value} {A : Array Value} (e : A = (l1 ++ l2 ++ l3).toArray) (h1 : ∀ u ∈ l1, NoU u) (h2 : ∀ u ∈ l2, NoU u) (h3 : ∀ u ∈ l3, NoU u) : ∀ u ∈ A, NoU u := by
  subst e
  intro u hu
  rw [List.mem_toArray, List.mem_append, List.mem_append] at hu
  rcases hu with (hu | hu) | hu
  · exact h1 u hu
  · exact h2 u hu
  · exact h3 u hu
theorem noU_zero {z : Array Value} (hz : ∀ u ∈ z, NoU u) (n : Nat) : ∀ u ∈ Builtin.zeroCells z n, NoU u := by
  intro u hu
  simp only [Builtin.zeroCells] at hu
  simp at hu
  obtain ⟨j, h1, h2⟩ := hu
  have hp : 0 < z.size := by
    rcases Nat.eq_zero_or_pos z.size with h | h
    · rw [h, Nat.mul_zero] at h1; omega
    · exact h
  have hlt := Nat.mod_lt j hp
  rw [← h2, getElem!_pos z (j % z.size) hlt]
  exact hz _ (Array.getElem_mem hlt)
section
variable {P : Program} {w : World}
theorem run_append_ow {t ty : TypeId} {base : Nat} {e : TypeId} {i : TypeInfo} {z : Value} {size bytes : Nat} (ht : P.underlying t = some (.slice e)) (hi : P.info? e = some i) (hz : i.zero = some z)
    (hsize : i.size = size) (hby : i.bytes = bytes) (hzs : z.cells.size = size) (hsz : 0 < size) (hzu : ∀ u ∈ z.cells, NoU u)
    {v : Value} {n : Nat} {xs : List Value} (h : Ow w base e size v n xs)
    {ad : Addr} {m c : Nat} {news : List Value} (hl : news.length = m * size) (hnews : ∀ j u, news[j]? = some u → w.cell? (ad.add j) = some u) (h1 : ∀ u ∈ news, u.oneCell' = true) (hu : ∀ u ∈ news, NoU u)
    (hm : 0 < m) (h63 : n + m ≤ maxLen) (hbytes : (n + m) * bytes ≤ 140737488355328) (hbase : base ≤ w.heap.size) :
    ∃ g cap w', (Builtin.append_ #[t, t] ty #[v, .slice (some ad) m c]).run P w = .ok (.slice (some ⟨g, 0, none⟩) (n + m) cap) w' ∧
      Ow w' base e size (.slice (some ⟨g, 0, none⟩) (n + m) cap) (n + m) (xs ++ news) ∧ w.grownBy w' v.ownBlock ∧ (v.ownBlock = some g ∨ g = w.heap.size) ∧ g < w'.heap.size := by
  obtain ⟨g, cap, w', hr, h2, h3, h4, h5⟩ := run_append_lies (P := P) w t ty base e i z size bytes ht hi hz hsize hby hzs hsz v n xs h.own ad m c news hl hnews h1 hm h63 hbytes hbase _ rfl
  refine ⟨g, cap, w', hr, ⟨h2, ?_⟩, h3, h4, h5⟩
  have hx : ∀ (cur : Array Value), (∀ g' c', v = .slice (some ⟨g', 0, none⟩) n c' → w.heap[g']? = some (.cells cur e (0, 0)) → ∀ u ∈ cur, NoU u) := by
    intro cur g' c' hv hb
    exact h.all g' cur e (0, 0) (by rw [hv]; rfl) hb
  subst hsize
  subst hby
  have hsmall : n + m ≤ 9223372036854775807 := by simp only [maxLen] at h63; omega
  -- what the block holds behind it
  have key : ∀ (A : Array Value) (W : World) (sz : Nat) (cp : Nat), (Builtin.append_ #[t, t] ty #[v, .slice (some ad) m c]).run P w = .ok (.slice (some ⟨sz, 0, none⟩) (n + m) cp) W → W.heap[sz]? = some (.cells A e (0, 0)) → (∀ u ∈ A, NoU u) → Nu w' (Value.ownBlock (.slice (some ⟨g, 0, none⟩) (n + m) cap)) := by
    intro A W sz cp hrun hb hA
    rw [hr] at hrun
    injection hrun with e1 e2
    injection e1 with e1 _ _
    injection e1 with e1
    injection e1 with e1 _ _
    subst e1; subst e2
    intro g' cur T fz e' hc
    have e'' : g = g' := by simpa [Value.ownBlock] using e'
    subst e''
    rw [hb] at hc
    injection hc with hc
    injection hc with hc _ _
    subst hc
    exact hA
  rcases h.own.2 with ⟨rfl, rfl⟩ | ⟨g0, cap0, cur, rfl, hbg, hg, hnc, hcm, hcs, htake⟩
  · have hx0 : xs = [] := List.eq_nil_of_length_eq_zero (by simpa using h.own.1)
    subst hx0
    have hr2 := run_append_nil (P := P) w t ty e i z ht hi hz ad m c news hl hnews (by omega) (by omega) (by have hb := hbytes; simp only [Nat.zero_add] at hb; omega)
    refine key _ _ _ _ (by rw [Nat.zero_add]; exact hr2) (heap_alloc_new w.drew _) ?_
    intro u hu'
    rw [Array.mem_append] at hu'
    rcases hu' with hu' | hu'
    · exact hu u (by simpa using hu')
    · exact noU_zero hzu _ u hu'
  · have hcur : ∀ u ∈ cur, NoU u := h.all g0 cur e (0, 0) rfl hg
    have hxs : ∀ u ∈ xs, NoU u := by
      intro u hu'
      rw [← htake] at hu'
      exact hcur u (by simpa using List.mem_of_mem_take hu')
    by_cases hroom : n + m ≤ cap0
    · have hfit : n * i.size + news.length ≤ cur.size := by rw [hl, hcs, ← Nat.add_mul]; exact Nat.mul_le_mul_right _ hroom
      have hr2 := run_append_room (P := P) w t ty e i ht hi g0 n cap0 cur hg ad m c news hl hnews h1 hroom hfit
      refine key _ _ _ _ hr2 (setRow_heap w g0 cur _ e _ hg) (noU_row rfl ?_ hu ?_)
      · intro u hu'
        exact hcur u (by simpa using List.mem_of_mem_take hu')
      · intro u hu'
        exact hcur u (by simpa using List.mem_of_mem_drop hu')
    · have holds : ∀ j u, xs[j]? = some u → w.cell? ((⟨g0, 0, none⟩ : Addr).add j) = some u := h.own.cells (g := g0) rfl
      have hr2 := run_append_grow (P := P) w t ty e i z ht hi hz ⟨g0, 0, none⟩ n cap0 xs h.own.1 holds ad m c news hl hnews (by omega) (by omega) (growslice_fits (by omega) hbytes)
      refine key _ _ _ _ hr2 (heap_alloc_new w.drew _) ?_
      intro u hu'
      rw [Array.mem_append, Array.mem_append] at hu'
      rcases hu' with (hu' | hu') | hu'
      · exact hxs u (by simpa using hu')
      · exact hu u (by simpa using hu')
      · exact noU_zero hzu _ u hu'

/-- At the operation. -/
theorem wp_append_ow {o : Oper} {a : Act} {K : Act → World → Prop} {Q : Exit → Act → World → Prop} (s x : Operand) (t : TypeId)
    (ho : o.op = .call { callee := .builtin .append, args := #[s, x], argTypes := #[t, t] })
    {base : Nat} {e : TypeId} {i : TypeInfo} {z : Value} {size bytes : Nat} (ht : P.underlying t = some (.slice e)) (hi : P.info? e = some i) (hz : i.zero = some z)
    (hsize : i.size = size) (hby : i.bytes = bytes) (hzs : z.cells.size = size) (hsz : 0 < size) (hzu : ∀ u ∈ z.cells, NoU u)
    {v : Value} {n : Nat} {xs : List Value} (hs : a.eval s = v) (hown : Ow w base e size v n xs)
    {ad : Addr} {m c : Nat} {news : List Value} (hx : a.eval x = .slice (some ad) m c) (hl : news.length = m * size) (hnews : ∀ j u, news[j]? = some u → w.cell? (ad.add j) = some u) (h1 : ∀ u ∈ news, u.oneCell' = true) (hu : ∀ u ∈ news, NoU u)
    (hm : 0 < m) (h63 : n + m ≤ maxLen) (hbytes : (n + m) * bytes ≤ 140737488355328) (hbase : base ≤ w.heap.size)
    (h : ∀ g cap w', Ow w' base e size (.slice (some ⟨g, 0, none⟩) (n + m) cap) (n + m) (xs ++ news) → w.grownBy w' v.ownBlock → (v.ownBlock = some g ∨ g = w.heap.size) → g < w'.heap.size → K (a.put o.dst (.slice (some ⟨g, 0, none⟩) (n + m) cap)) w') : o.wp P a w K Q := by
  obtain ⟨g, cap, w', hr, h2, h3, h4, h5⟩ := run_append_ow (P := P) (ty := o.type) (c := c) ht hi hz hsize hby hzs hsz hzu hown hl hnews h1 hu hm h63 hbytes hbase
  unfold Oper.wp execOp
  simp only [ho, resolve, invoke, builtin, Sem.run_bind, Sem.run_pure, Result.andThen_ok, List.map_toArray, List.map_cons, List.map_nil, hs, hx, hr]
  exact h g cap w' h2 h3 h4 h5
/-- At the list of a plain region's operations. -/
theorem wpList_append_ow {ops : Array Oper} {rest : List Oper} {o : Oper} {a : Act} {Q : Exit → Act → World → Prop} (hgd : o.guard = none) (s x : Operand) (t : TypeId)
    (ho : o.op = .call { callee := .builtin .append, args := #[s, x], argTypes := #[t, t] })
    {base : Nat} {e : TypeId} {i : TypeInfo} {z : Value} {size bytes : Nat} (ht : P.underlying t = some (.slice e)) (hi : P.info? e = some i) (hz : i.zero = some z)
    (hsize : i.size = size) (hby : i.bytes = bytes) (hzs : z.cells.size = size) (hsz : 0 < size) (hzu : ∀ u ∈ z.cells, NoU u)
    {v : Value} {n : Nat} {xs : List Value} (hs : a.eval s = v) (hown : Ow w base e size v n xs)
    {ad : Addr} {m c : Nat} {news : List Value} (hx : a.eval x = .slice (some ad) m c) (hl : news.length = m * size) (hnews : ∀ j u, news[j]? = some u → w.cell? (ad.add j) = some u) (h1 : ∀ u ∈ news, u.oneCell' = true) (hu : ∀ u ∈ news, NoU u)
    (hm : 0 < m) (h63 : n + m ≤ maxLen) (hbytes : (n + m) * bytes ≤ 140737488355328) (hbase : base ≤ w.heap.size)
    (h : ∀ g cap w', Ow w' base e size (.slice (some ⟨g, 0, none⟩) (n + m) cap) (n + m) (xs ++ news) → w.grownBy w' v.ownBlock → (v.ownBlock = some g ∨ g = w.heap.size) → g < w'.heap.size → wpList P ops Q rest (a.put o.dst (.slice (some ⟨g, 0, none⟩) (n + m) cap)) w') : wpList P ops Q (o :: rest) a w :=
  wpList_plain hgd fun _ hK => wp_append_ow s x t ho ht hi hz hsize hby hzs hsz hzu hs hown hx hl hnews h1 hu hm h63 hbytes hbase fun g cap w' h2 h3 h4 h5 => hK _ _ (h g cap w' h2 h3 h4 h5)
end

end Go.Proofs.YtffipjofefemiaaGreatDoor

namespace Go.Proofs.YtffipjofefemiaaGreatDoor
namespace Kc
/-- The slope ahead of piece i. -/
def lst (Q : Nat → Rat) : Nat → Rat
  | 0 => 0
  | i + 1 => Q i
/-- The starts that remain of the first i. -/
def bs (X : Nat → Int) (Q : Nat → Rat) : Nat → List Int
  | 0 => []
  | i + 1 => if Q i = lst Q i then bs X Q i else bs X Q i ++ [X i]
/-- The slopes that remain of the first i. -/
def bq (Q : Nat → Rat) : Nat → List Rat
  | 0 => []
  | i + 1 => if Q i = lst Q i then bq Q i else bq Q i ++ [Q i]
theorem bs_skip {X : Nat → Int} {Q : Nat → Rat} {i : Nat} (h : Q i = lst Q i) : bs X Q (i + 1) = bs X Q i := if_pos h
theorem bs_take {X : Nat → Int} {Q : Nat → Rat} {i : Nat} (h : ¬ Q i = lst Q i) : bs X Q (i + 1) = bs X Q i ++ [X i] := if_neg h
theorem bq_skip {Q : Nat → Rat} {i : Nat} (h : Q i = lst Q i) : bq Q (i + 1) = bq Q i := if_pos h
theorem bq_take {Q : Nat → Rat} {i : Nat} (h : ¬ Q i = lst Q i) : bq Q (i + 1) = bq Q i ++ [Q i] := if_neg h
theorem bs_len (X : Nat → Int) (Q : Nat → Rat) (i : Nat) : (bs X Q i).length ≤ i := by
  induction i with
  | zero => exact Nat.le_refl _
  | succ i ih =>
    by_cases h : Q i = lst Q i
    · rw [bs_skip h]; omega
    · rw [bs_take h, List.length_append]; simp; exact ih
theorem bq_len (X : Nat → Int) (Q : Nat → Rat) (i : Nat) : (bq Q i).length = (bs X Q i).length := by
  induction i with
  | zero => rfl
  | succ i ih =>
    by_cases h : Q i = lst Q i
    · rw [bs_skip h, bq_skip h, ih]
    · rw [bs_take h, bq_take h, List.length_append, List.length_append, ih]; rfl
theorem bs_mem {X : Nat → Int} {Q : Nat → Rat} {i : Nat} {z : Int} (h : z ∈ bs X Q i) : ∃ j, j < i ∧ X j = z := by
  induction i with
  | zero => cases h
  | succ i ih =>
    by_cases hq : Q i = lst Q i
    · rw [bs_skip hq] at h
      obtain ⟨j, hj, e⟩ := ih h
      exact ⟨j, by omega, e⟩
    · rw [bs_take hq, List.mem_append, List.mem_singleton] at h
      rcases h with h | h
      · obtain ⟨j, hj, e⟩ := ih h
        exact ⟨j, by omega, e⟩
      · exact ⟨i, by omega, h.symm⟩
theorem bs_congr {X Y : Nat → Int} {Q R : Nat → Rat} {n : Nat} (hX : ∀ i, i < n → X i = Y i) (hQ : ∀ i, i < n → Q i = R i) : bs X Q n = bs Y R n ∧ bq Q n = bq R n := by
  induction n with
  | zero => exact ⟨rfl, rfl⟩
  | succ n ih =>
    obtain ⟨h1, h2⟩ := ih (fun i hi => hX i (by omega)) (fun i hi => hQ i (by omega))
    have e1 := hQ n (by omega)
    have e2 : lst Q n = lst R n := by
      cases n with
      | zero => rfl
      | succ m => exact hQ m (by omega)
    by_cases h : Q n = lst Q n
    · rw [bs_skip h, bq_skip h, bs_skip (e1 ▸ e2 ▸ h), bq_skip (e1 ▸ e2 ▸ h)]; exact ⟨h1, h2⟩
    · have h' : ¬ R n = lst R n := by rw [← e1, ← e2]; exact h
      rw [bs_take h, bq_take h, bs_take h', bq_take h', h1, h2, hX n (by omega), e1]; exact ⟨rfl, rfl⟩
/-- The number of starts that are not greater. -/
def upn (X : Nat → Int) (y : Rat) : Nat → Nat
  | 0 => 0
  | n + 1 => if (X n : Rat) ≤ y then n + 1 else upn X y n
/-- Rows that increase strictly and have the same numbers are the same. -/
theorem inc_ext : ∀ {l k : List Int}, l.Pairwise (· < ·) → k.Pairwise (· < ·) → (∀ z, z ∈ l ↔ z ∈ k) → l = k
  | [], [], _, _, _ => rfl
  | [], b :: k, _, _, h => absurd ((h b).2 (by simp)) (by simp)
  | a :: l, [], _, _, h => absurd ((h a).1 (by simp)) (by simp)
  | a :: l, b :: k, h1, h2, h => by
    rw [List.pairwise_cons] at h1 h2
    have e : a = b := by
      have h3 := (h a).1 (by simp)
      have h4 := (h b).2 (by simp)
      rw [List.mem_cons] at h3 h4
      rcases h3 with h3 | h3
      · exact h3
      · rcases h4 with h4 | h4
        · exact h4.symm
        · have := h1.1 b h4
          have := h2.1 a h3
          omega
    subst e
    congr 1
    refine inc_ext h1.2 h2.2 fun z => ?_
    have := h z
    rw [List.mem_cons, List.mem_cons] at this
    refine ⟨fun hz => ?_, fun hz => ?_⟩
    · rcases this.1 (.inr hz) with e | e
      · have := h1.1 z hz; omega
      · exact e
    · rcases this.2 (.inr hz) with e | e
      · have := h2.1 z hz; omega
      · exact e
/-- The row of all starts of two rows. -/
structure Un (xs : List Int) (n : Nat) (X : Nat → Int) (m : Nat) (Y : Nat → Int) : Prop where
  inc : xs.Pairwise (· < ·)
  mem : ∀ z, z ∈ xs ↔ (∃ j, j < n ∧ X j = z) ∨ ∃ j, j < m ∧ Y j = z
theorem Un.same {xs ys : List Int} {n m : Nat} {X Y : Nat → Int} (h : Un xs n X m Y) (k : Un ys n X m Y) : xs = ys :=
  inc_ext h.inc k.inc fun z => (h.mem z).trans (k.mem z).symm
theorem Un.start {X Y : Nat → Int} : Un [] 0 X 0 Y := ⟨List.Pairwise.nil, fun z => by simp⟩
/-- One step of going through both. -/
theorem Un.step {xs : List Int} {i k : Nat} {X Y : Nat → Int} {at' : Int} {i' k' : Nat} (h : Un xs i X k Y) (hi : i ≤ i') (hk : k ≤ k')
    (hlo : ∀ z, z ∈ xs → z < at') (ha : (∃ j, j < i' ∧ X j = at') ∨ ∃ j, j < k' ∧ Y j = at')
    (hX : ∀ j, i ≤ j → j < i' → X j = at') (hY : ∀ j, k ≤ j → j < k' → Y j = at') : Un (xs ++ [at']) i' X k' Y := by
  refine ⟨?_, fun z => ?_⟩
  · rw [List.pairwise_append]
    refine ⟨h.inc, by simp, fun a hax b hb => ?_⟩
    rw [List.mem_singleton] at hb
    rw [hb]
    exact hlo a hax
  · rw [List.mem_append, List.mem_singleton, h.mem z]
    constructor
    · rintro ((⟨j, hj, e⟩ | ⟨j, hj, e⟩) | rfl)
      · exact .inl ⟨j, by omega, e⟩
      · exact .inr ⟨j, by omega, e⟩
      · exact ha
    · rintro (⟨j, hj, e⟩ | ⟨j, hj, e⟩)
      · rcases Nat.lt_or_ge j i with h1 | h1
        · exact .inl (.inl ⟨j, h1, e⟩)
        · exact .inr (e.symm.trans (hX j h1 hj))
      · rcases Nat.lt_or_ge j k with h1 | h1
        · exact .inl (.inr ⟨j, h1, e⟩)
        · exact .inr (e.symm.trans (hY j h1 hj))
end Kc

end Go.Proofs.YtffipjofefemiaaGreatDoor

namespace Go.Proofs.YtffipjofefemiaaGreatDoor
open Go.RowKit Kb

section
variable {w w' : World} {r : Option Nat}
/-- A row without limbs is written: limbs stay. -/
theorem Sl.offrow {A : Option Addr} {xs : List Nat} (h : Sl w .u16 A xs) (hr : Nu w r) (hg : w.grownBy w' r) : Sl w' .u16 A xs := by
  refine h.grown hg fun ad e hx e2 => ?_
  have hpos : 0 < xs.length := List.length_pos_iff.2 hx
  obtain ⟨ad', e3, _, hc⟩ := h 0 hpos
  rw [e] at e3
  injection e3 with e3
  subst e3
  rw [addr_zero] at hc
  unfold World.cell? at hc
  split at hc
  · rename_i c T fz hb
    split at hc
    · cases hc
    · exact hr _ _ _ _ e2.symm hb _ (Array.mem_of_getElem? hc) _ rfl
  · cases hc
theorem Nm.offrow {v : Value} {a : Nat} (h : Nm w v a) (hr : Nu w r) (hg : w.grownBy w' r) : Nm w' v a := by
  obtain ⟨A, c, e, h1, h2⟩ := h
  exact ⟨A, c, e, h1.offrow hr hg, h2⟩
theorem Raw.offrow {A : Option Addr} {n c a : Nat} (h : Raw w A n c a) (hr : Nu w r) (hg : w.grownBy w' r) : Raw w' A n c a := by
  obtain ⟨xs, h1, h2, h3⟩ := h
  exact ⟨xs, h1, h2.offrow hr hg, h3⟩
theorem Zn.offrow {s : Bool} {A : Option Addr} {n c : Nat} {z : Int} (h : Zn w s A n c z) (hr : Nu w r) (hg : w.grownBy w' r) : Zn w' s A n c z := ⟨h.1, h.2.offrow hr hg⟩
theorem Zi.offrow {s : Bool} {A : Option Addr} {n c : Nat} {z : Int} (h : Zi w s A n c z) (hr : Nu w r) (hg : w.grownBy w' r) : Zi w' s A n c z := by
  obtain ⟨a, h1, h2⟩ := h
  exact ⟨a, h1.offrow hr hg, h2⟩
theorem Qf.offrow {s1 s2 : Bool} {A1 A2 : Option Addr} {n1 c1 n2 c2 : Nat} {q : Rat} (h : Qf w s1 A1 n1 c1 s2 A2 n2 c2 q) (hr : Nu w r) (hg : w.grownBy w' r) : Qf w' s1 A1 n1 c1 s2 A2 n2 c2 q := ⟨h.n.offrow hr hg, h.d.offrow hr hg⟩
theorem Ri.offrow {s1 s2 : Bool} {A1 A2 : Option Addr} {n1 c1 n2 c2 k : Nat} {q : Rat} (h : Ri w s1 A1 n1 c1 s2 A2 n2 c2 k q) (hr : Nu w r) (hg : w.grownBy w' r) : Ri w' s1 A1 n1 c1 s2 A2 n2 c2 k q := by
  obtain ⟨⟨N, D, h1, h2, h3⟩, k1, k2⟩ := h
  exact ⟨⟨N, D, h1.offrow hr hg, h2.offrow hr hg, h3⟩, k1, k2⟩
/-- A curve that lies below the row stays. -/
theorem Cv.offrow {B0 n m k : Nat} {A B : Option Addr} {X : Nat → Int} {Q : Nat → Rat} (h : Cv w B0 A n B m k X Q) (hr : Nu w r) (hg : w.grownBy w' r) (hl : ∀ g, r = some g → B0 ≤ g) : Cv w' B0 A n B m k X Q := by
  have hle := h.le
  have far : ∀ b, b < B0 → some b ≠ r := fun b hb e => by have := hl b e.symm; omega
  refine ⟨fun i hi => ?_, fun i hi => ?_, Nat.le_trans h.le hg.size⟩
  · obtain ⟨ad, e, h1, h2⟩ := h.s i hi
    exact ⟨ad, e, h1, hg.cell (a := ad.add i) h2 (far _ (in_add h1))⟩
  · obtain ⟨ad, s1, A1, n1, c1, s2, A2, n2, c2, e, h1, h2, h3, h4, h5, h6⟩ := h.q i hi
    have l := far _ (in_add (j := i * 4) h1)
    exact ⟨ad, s1, A1, n1, c1, s2, A2, n2, c2, e, h1, hg.cell (a := ad.add (i * 4)) h2 l, hg.cell (a := ⟨(ad.add (i * 4)).block, (ad.add (i * 4)).off + 1, none⟩) h3 l, hg.cell (a := ⟨(ad.add (i * 4)).block, (ad.add (i * 4)).off + 2, none⟩) h4 l, hg.cell (a := ⟨(ad.add (i * 4)).block, (ad.add (i * 4)).off + 3, none⟩) h5 l, h6.offrow hr hg⟩
theorem Bk.offrow {g : Nat} {o : Obj} (h : Bk w g o) (hg : w.grownBy w' r) (hne : some g ≠ r) : Bk w' g o := (hg.block g h.lt hne).trans h
theorem Tb.offrow (h : Tb w) (hg : w.grownBy w' r) (hne : ∀ g, r = some g → 0 < g) : Tb w' := by
  cases r with
  | none => exact h.below ⟨hg.os, hg.tape, hg.output, hg.size, fun k hk => hg.block k hk (by simp)⟩
  | some g => exact h.grown hg (Nat.ne_of_lt (hne g rfl))
end

/-- The cells cs are the fractions qs, normalized. -/
def Qs (w : World) : List Rat → List Value → Prop
  | [], cs => cs = []
  | q :: qs, cs => ∃ s1 A1 n1 c1 s2 A2 n2 c2 cs', cs = .bool s1 :: .slice A1 n1 c1 :: .bool s2 :: .slice A2 n2 c2 :: cs' ∧ Qf w s1 A1 n1 c1 s2 A2 n2 c2 q ∧ Qs w qs cs'
theorem Qs.mono {w w' : World} (H : ∀ s1 A1 n1 c1 s2 A2 n2 c2 q, Qf w s1 A1 n1 c1 s2 A2 n2 c2 q → Qf w' s1 A1 n1 c1 s2 A2 n2 c2 q) : ∀ {qs : List Rat} {cs : List Value}, Qs w qs cs → Qs w' qs cs
  | [], _, h => h
  | _ :: _, _, ⟨s1, A1, n1, c1, s2, A2, n2, c2, cs', e, h1, h2⟩ => ⟨s1, A1, n1, c1, s2, A2, n2, c2, cs', e, H _ _ _ _ _ _ _ _ _ h1, Qs.mono H h2⟩
theorem Qs.below {w w' : World} {qs : List Rat} {cs : List Value} (h : Qs w qs cs) (hb : Below w.heap.size w w') : Qs w' qs cs := h.mono fun _ _ _ _ _ _ _ _ _ k => k.below hb
theorem Qs.offrow {w w' : World} {r : Option Nat} {qs : List Rat} {cs : List Value} (h : Qs w qs cs) (hr : Nu w r) (hg : w.grownBy w' r) : Qs w' qs cs := h.mono fun _ _ _ _ _ _ _ _ _ k => k.offrow hr hg
theorem Qs.offbox {w w' : World} {g : Nat} {C : Array Value} {T : TypeId} {qs : List Rat} {cs : List Value} (h : Qs w qs cs) (hb : w.heap[g]? = some (.cells C T (0, 0))) (hC : NoInt C) (hg : w.grownBy w' (some g)) : Qs w' qs cs := h.mono fun _ _ _ _ _ _ _ _ _ k => k.offbox hb hC hg
theorem Qs.snoc {w : World} {s1 s2 : Bool} {A1 A2 : Option Addr} {n1 c1 n2 c2 : Nat} {q : Rat} (k : Qf w s1 A1 n1 c1 s2 A2 n2 c2 q) : ∀ {qs : List Rat} {cs : List Value}, Qs w qs cs → Qs w (qs ++ [q]) (cs ++ [.bool s1, .slice A1 n1 c1, .bool s2, .slice A2 n2 c2])
  | [], _, h => by subst h; exact ⟨_, _, _, _, _, _, _, _, [], rfl, k, rfl⟩
  | _ :: _, _, ⟨s1, A1, n1, c1, s2, A2, n2, c2, cs', e, h1, h2⟩ => by subst e; exact ⟨_, _, _, _, _, _, _, _, _, rfl, h1, Qs.snoc k h2⟩
theorem Qs.at {w : World} : ∀ {qs : List Rat} {cs : List Value}, Qs w qs cs → ∀ i, i < qs.length → ∃ s1 A1 n1 c1 s2 A2 n2 c2, cs[i * 4]? = some (.bool s1) ∧ cs[i * 4 + 1]? = some (.slice A1 n1 c1) ∧ cs[i * 4 + 2]? = some (.bool s2) ∧ cs[i * 4 + 3]? = some (.slice A2 n2 c2) ∧ Qf w s1 A1 n1 c1 s2 A2 n2 c2 (qs.getD i 0)
  | [], _, _, i, hi => by simp at hi
  | q :: qs, _, ⟨s1, A1, n1, c1, s2, A2, n2, c2, cs', e, h1, h2⟩, 0, _ => by subst e; exact ⟨_, _, _, _, _, _, _, _, rfl, rfl, rfl, rfl, h1⟩
  | q :: qs, _, ⟨s1, A1, n1, c1, s2, A2, n2, c2, cs', e, h1, h2⟩, i + 1, hi => by
    subst e
    obtain ⟨t1, T1, m1, d1, t2, T2, m2, d2, k1, k2, k3, k4, k5⟩ := Qs.at h2 i (by simpa using hi)
    refine ⟨t1, T1, m1, d1, t2, T2, m2, d2, ?_, ?_, ?_, ?_, ?_⟩
    · rw [show (i + 1) * 4 = i * 4 + 4 by omega]; exact k1
    · rw [show (i + 1) * 4 + 1 = i * 4 + 1 + 4 by omega]; exact k2
    · rw [show (i + 1) * 4 + 2 = i * 4 + 2 + 4 by omega]; exact k3
    · rw [show (i + 1) * 4 + 3 = i * 4 + 3 + 4 by omega]; exact k4
    · exact k5

/-- Two rows of the call's own: starts and slopes. -/
structure Co (w : World) (N : Nat) (v1 v2 : Value) (xs : List Int) (qs : List Rat) (cs : List Value) : Prop where
  r1 : Ow w N 3 1 v1 xs.length (xs.map (.int .i64))
  r2 : Ow w N 26 4 v2 qs.length cs
  q : Qs w qs cs
theorem Co.nil (w : World) (N : Nat) : Co w N (.slice none 0 0) (.slice none 0 0) [] [] [] := ⟨ow_nil _ _ _ _, ow_nil _ _ _ _, rfl⟩
theorem Ow.below {w w' : World} {N : Nat} {e : TypeId} {size n : Nat} {v : Value} {xs : List Value} (h : Ow w N e size v n xs) (hb : Below w.heap.size w w') : Ow w' N e size v n xs :=
  h.kept (gb_of_below (r := none) hb) (by cases v.ownBlock <;> simp)
theorem Ow.shape {w : World} {N : Nat} {e : TypeId} {size n : Nat} {v : Value} {xs : List Value} (h : Ow w N e size v n xs) : ∃ A c, v = .slice A n c := by
  rcases h.own.2 with ⟨rfl, rfl⟩ | ⟨g, cap, cur, rfl, _⟩
  · exact ⟨_, _, rfl⟩
  · exact ⟨_, _, rfl⟩
section
variable {w w' : World} {N : Nat} {v1 v2 : Value} {xs : List Int} {qs : List Rat} {cs : List Value}
theorem Co.below (h : Co w N v1 v2 xs qs cs) (hb : Below w.heap.size w w') : Co w' N v1 v2 xs qs cs := ⟨h.r1.below hb, h.r2.below hb, h.q.below hb⟩
theorem Co.offbox {g : Nat} {C : Array Value} {T : TypeId} (h : Co w N v1 v2 xs qs cs) (hb : w.heap[g]? = some (.cells C T (0, 0))) (hC : NoInt C) (hg : w.grownBy w' (some g)) (hN : g < N) : Co w' N v1 v2 xs qs cs :=
  ⟨h.r1.kept hg (.inr fun e => by have := (h.r1.own.lt g e).1; omega), h.r2.kept hg (.inr fun e => by have := (h.r2.own.lt g e).1; omega), h.q.offbox hb hC hg⟩
end

/-- Slopes that are normalized. -/
def Sf (w : World) (B0 : Nat) (B : Option Addr) (m : Nat) (Q : Nat → Rat) : Prop := ∀ i, i < m → ∃ ad s1 A1 n1 c1 s2 A2 n2 c2, B = some ad ∧ ad.block < B0 ∧ w.cell? (ad.add (i * 4)) = some (.bool s1) ∧ w.cell? ⟨(ad.add (i * 4)).block, (ad.add (i * 4)).off + 1, none⟩ = some (.slice A1 n1 c1) ∧ w.cell? ⟨(ad.add (i * 4)).block, (ad.add (i * 4)).off + 2, none⟩ = some (.bool s2) ∧ w.cell? ⟨(ad.add (i * 4)).block, (ad.add (i * 4)).off + 3, none⟩ = some (.slice A2 n2 c2) ∧ Qf w s1 A1 n1 c1 s2 A2 n2 c2 (Q i)
theorem Sf.below {w w' : World} {B0 m : Nat} {B : Option Addr} {Q : Nat → Rat} (h : Sf w B0 B m Q) (hb : Below w.heap.size w w') (hB : B0 ≤ w.heap.size) : Sf w' B0 B m Q := fun i hi => by
  obtain ⟨ad, s1, A1, n1, c1, s2, A2, n2, c2, e, h1, h2, h3, h4, h5, h6⟩ := h i hi
  have l : ad.block < w.heap.size := by omega
  exact ⟨ad, s1, A1, n1, c1, s2, A2, n2, c2, e, h1, (hb.cell (p := ad.add (i * 4)) (in_add l)).trans h2, (hb.cell (p := ⟨(ad.add (i * 4)).block, (ad.add (i * 4)).off + 1, none⟩) (in_add l)).trans h3, (hb.cell (p := ⟨(ad.add (i * 4)).block, (ad.add (i * 4)).off + 2, none⟩) (in_add l)).trans h4, (hb.cell (p := ⟨(ad.add (i * 4)).block, (ad.add (i * 4)).off + 3, none⟩) (in_add l)).trans h5, h6.below hb⟩
/-- Entry i of a list of integers. -/
def ix (xs : List Int) (i : Nat) : Int := xs.getD i 0
def qx (qs : List Rat) (i : Nat) : Rat := qs.getD i 0
section
variable {w w' : World} {N : Nat} {A B : Option Addr} {n c m d : Nat} {v1 v2 : Value} {xs : List Int} {qs : List Rat} {cs : List Value}
theorem row_add (g j : Nat) : (⟨g, 0, none⟩ : Addr).add j = ⟨g, j, none⟩ := by unfold Addr.add; split <;> simp_all
/-- The starts read. -/
theorem Ow.si (h : Ow w N 3 1 (.slice A n c) xs.length (xs.map (.int .i64))) : Si w w.heap.size A xs.length (ix xs) := fun i hi => by
  rcases h.own.2 with ⟨_, h0⟩ | ⟨g, cap, cur, e, _, hb, _⟩
  · omega
  · injection e with e1 e2 e3
    subst e1
    refine ⟨_, rfl, (Array.getElem?_eq_some_iff.1 hb).1, h.own.cells (g := g) rfl i _ ?_⟩
    simp [ix, List.getElem?_map, List.getElem?_eq_getElem hi]
theorem Ow.sf (h : Ow w N 26 4 (.slice B m d) qs.length cs) (hq : Qs w qs cs) : Sf w w.heap.size B qs.length (qx qs) := fun i hi => by
  rcases h.own.2 with ⟨_, h0⟩ | ⟨g, cap, cur, e, _, hb, _⟩
  · omega
  · injection e with e1 e2 e3
    subst e1
    obtain ⟨s1, A1, n1, c1, s2, A2, n2, c2, k1, k2, k3, k4, k5⟩ := hq.at i hi
    have cell := fun j u (hu : cs[j]? = some u) => (row_add g j) ▸ h.own.cells (g := g) rfl j u hu
    refine ⟨_, s1, A1, n1, c1, s2, A2, n2, c2, rfl, (Array.getElem?_eq_some_iff.1 hb).1, ?_, ?_, ?_, ?_, k5⟩
    · rw [row_add]; exact cell _ _ k1
    · rw [row_add]; exact cell _ _ k2
    · rw [row_add]; exact cell _ _ k3
    · rw [row_add]; exact cell _ _ k4
theorem Sf.sq {B0 k : Nat} {Q : Nat → Rat} (h : Sf w B0 B m Q) (hk : k ≤ 1000) (hQ : ∀ i, i < m → QL k (Q i)) : Sq w B0 B m k Q := fun i hi => by
  obtain ⟨ad, s1, A1, n1, c1, s2, A2, n2, c2, e, h1, h2, h3, h4, h5, h6⟩ := h i hi
  exact ⟨ad, s1, A1, n1, c1, s2, A2, n2, c2, e, h1, h2, h3, h4, h5, h6.ri (hQ i hi) hk⟩
/-- What has been made is a curve that reads. -/
theorem Co.cv {k : Nat} (h : Co w N (.slice A n c) (.slice B m d) xs qs cs) (hk : k ≤ 1000) (hQ : ∀ q, q ∈ qs → QL k q) : Cv w w.heap.size A xs.length B qs.length k (ix xs) (qx qs) :=
  ⟨h.r1.si, (h.r2.sf h.q).sq hk (fun i hi => hQ _ (by unfold qx; rw [List.getD_eq_getElem?_getD, List.getElem?_eq_getElem hi]; exact List.getElem_mem hi)), Nat.le_refl _⟩
end

end Go.Proofs.YtffipjofefemiaaGreatDoor

namespace Go.Proofs.YtffipjofefemiaaGreatDoor
open Go.RowKit Kb

set_option maxRecDepth 100000 in
set_option maxHeartbeats 8000000 in
theorem Ints_true {w : World} {A B : Option Addr} {n c d B0 B1 : Nat} {X Y : Nat → Int} (h : Si w B0 A n X) (k : Si w B1 B n Y) (hB0 : B0 ≤ w.heap.size) (hB1 : B1 ≤ w.heap.size) (hXY : ∀ i, i < n → X i = Y i) (hn : n ≤ 1000) :
    Calls Tryz.prog 94 #[.slice A n c, .slice B n d] w fun e w' => e = .returned (.bool true) ∧ Below w.heap.size w w' := by
  have hll : ((n : Int) != (n : Int)) = false := by simp
  have HB0 := hid hB0
  have HB1 := hid hB1
  clear hB0 hB1
  go_enter Tryz.func94, Tryz.ntmps94
  go_wp2
  go_loopw [5] (fun iv wr => ∃ i : Nat, i ≤ n ∧ iv = .int .i64 i ∧ Qt w wr) (fun iv _ => n - (intOf iv).toNat)
  case atStart => exact ⟨0, Nat.zero_le _, rfl, Qt.refl _⟩
  case round =>
    obtain ⟨i, hi, rfl, hq⟩ := hrel
    by_cases hlt : i < n
    · obtain ⟨ad, rfl, hb1, hcell⟩ := (h.below (hq.below _) HB0.out) i hlt
      obtain ⟨bd, rfl, hb2, hcell2⟩ := (k.below (hq.below _) HB1.out) i hlt
      rw [← hXY i hlt] at hcell2
      have hee : ((X i : Int) != (X i : Int)) = false := by simp
      clear hb1 hb2 hXY h k
      go_wp2
      go_quiet (fail)
      go_wp2
      go_roundw
      case rel => exact ⟨i + 1, hlt, by go_num, hq.drewN _⟩
      case measure => simp [intOf]; omega
    · have hbb := hq.below w.heap.size
      go_wp2
      go_ret
      exact ⟨rfl, hbb⟩

/-- What stays in SameRats: both lists. -/
structure Sr (w : World) (B0 B1 : Nat) (A B : Option Addr) (n : Nat) (Q R : Nat → Rat) (wx : World) : Prop where
  a : Sf wx B0 A n Q
  b : Sf wx B1 B n R
  l0 : B0 ≤ wx.heap.size
  l1 : B1 ≤ wx.heap.size
  bl : Below w.heap.size w wx
theorem Sr.below {w wx wy : World} {B0 B1 n : Nat} {A B : Option Addr} {Q R : Nat → Rat} (h : Sr w B0 B1 A B n Q R wx) (hb : Below wx.heap.size wx wy) : Sr w B0 B1 A B n Q R wy :=
  ⟨h.a.below hb h.l0, h.b.below hb h.l1, Nat.le_trans h.l0 hb.size, Nat.le_trans h.l1 hb.size, bthen h.bl hb (Nat.le_refl _)⟩
/-- One entry of each, as it reads. -/
structure Spx (w : World) (B0 B1 : Nat) (A B : Option Addr) (n : Nat) (Q R : Nat → Rat) (a b : Addr) (s1 : Bool) (A1 : Option Addr) (n1 c1 : Nat) (s2 : Bool) (A2 : Option Addr) (n2 c2 : Nat) (t1 : Bool) (T1 : Option Addr) (m1 d1 : Nat) (t2 : Bool) (T2 : Option Addr) (m2 d2 : Nat) (x y : Rat) (wx : World) : Prop where
  p0 : wx.cell? a = some (.bool s1)
  p1 : wx.cell? ⟨a.block, a.off + 1, none⟩ = some (.slice A1 n1 c1)
  p2 : wx.cell? ⟨a.block, a.off + 2, none⟩ = some (.bool s2)
  p3 : wx.cell? ⟨a.block, a.off + 3, none⟩ = some (.slice A2 n2 c2)
  q0 : wx.cell? b = some (.bool t1)
  q1 : wx.cell? ⟨b.block, b.off + 1, none⟩ = some (.slice T1 m1 d1)
  q2 : wx.cell? ⟨b.block, b.off + 2, none⟩ = some (.bool t2)
  q3 : wx.cell? ⟨b.block, b.off + 3, none⟩ = some (.slice T2 m2 d2)
  x : Qf wx s1 A1 n1 c1 s2 A2 n2 c2 x
  y : Qf wx t1 T1 m1 d1 t2 T2 m2 d2 y
  la : a.block < wx.heap.size
  lb : b.block < wx.heap.size
  r : Sr w B0 B1 A B n Q R wx
section
variable {w wx wy : World} {B0 B1 n : Nat} {A B : Option Addr} {Q R : Nat → Rat} {a b : Addr} {s1 : Bool} {A1 : Option Addr} {n1 c1 : Nat} {s2 : Bool} {A2 : Option Addr} {n2 c2 : Nat} {t1 : Bool} {T1 : Option Addr} {m1 d1 : Nat} {t2 : Bool} {T2 : Option Addr} {m2 d2 : Nat} {x y : Rat}
theorem Spx.below (h : Spx w B0 B1 A B n Q R a b s1 A1 n1 c1 s2 A2 n2 c2 t1 T1 m1 d1 t2 T2 m2 d2 x y wx) (hb : Below wx.heap.size wx wy) : Spx w B0 B1 A B n Q R a b s1 A1 n1 c1 s2 A2 n2 c2 t1 T1 m1 d1 t2 T2 m2 d2 x y wy :=
  ⟨(hb.cell (p := a) h.la).trans h.p0, (hb.cell (p := ⟨a.block, a.off + 1, none⟩) h.la).trans h.p1, (hb.cell (p := ⟨a.block, a.off + 2, none⟩) h.la).trans h.p2, (hb.cell (p := ⟨a.block, a.off + 3, none⟩) h.la).trans h.p3, (hb.cell (p := b) h.lb).trans h.q0, (hb.cell (p := ⟨b.block, b.off + 1, none⟩) h.lb).trans h.q1, (hb.cell (p := ⟨b.block, b.off + 2, none⟩) h.lb).trans h.q2, (hb.cell (p := ⟨b.block, b.off + 3, none⟩) h.lb).trans h.q3, h.x.below hb, h.y.below hb, Nat.lt_of_lt_of_le h.la hb.size, Nat.lt_of_lt_of_le h.lb hb.size, h.r.below hb⟩
theorem Spx.cells (h : Spx w B0 B1 A B n Q R a b s1 A1 n1 c1 s2 A2 n2 c2 t1 T1 m1 d1 t2 T2 m2 d2 x y wx) : wx.cell? a = some (.bool s1) ∧ wx.cell? ⟨a.block, a.off + 1, none⟩ = some (.slice A1 n1 c1) ∧ wx.cell? ⟨a.block, a.off + 2, none⟩ = some (.bool s2) ∧ wx.cell? ⟨a.block, a.off + 3, none⟩ = some (.slice A2 n2 c2) ∧ wx.cell? b = some (.bool t1) ∧ wx.cell? ⟨b.block, b.off + 1, none⟩ = some (.slice T1 m1 d1) ∧ wx.cell? ⟨b.block, b.off + 2, none⟩ = some (.bool t2) ∧ wx.cell? ⟨b.block, b.off + 3, none⟩ = some (.slice T2 m2 d2) :=
  ⟨h.p0, h.p1, h.p2, h.p3, h.q0, h.q1, h.q2, h.q3⟩
end
set_option maxRecDepth 100000 in
set_option maxHeartbeats 8000000 in
theorem SameRats_true {w : World} {A B : Option Addr} {n c d B0 B1 : Nat} {Q R : Nat → Rat} (h : Sf w B0 A n Q) (k : Sf w B1 B n R) (hB0 : B0 ≤ w.heap.size) (hB1 : B1 ≤ w.heap.size) (hQR : ∀ i, i < n → Q i = R i) (hn : n ≤ 1000) :
    Calls Tryz.prog 95 #[.slice A n c, .slice B n d] w fun e w' => e = .returned (.bool true) ∧ Below w.heap.size w w' := by
  have hll : ((n : Int) != (n : Int)) = false := by simp
  have R0 : Sr w B0 B1 A B n Q R w := ⟨h, k, hB0, hB1, Below.refl _ _⟩
  clear hB0 hB1 h k
  go_enter Tryz.func95, Tryz.ntmps95
  go_wp2
  go_loopw [5] (fun iv wr => ∃ i : Nat, i ≤ n ∧ iv = .int .i64 i ∧ Sr w B0 B1 A B n Q R wr) (fun iv _ => n - (intOf iv).toNat)
  case atStart => exact ⟨0, Nat.zero_le _, rfl, R0⟩
  case round =>
    obtain ⟨i, hi, rfl, P⟩ := hrel
    clear R0
    by_cases hlt : i < n
    · obtain ⟨ad, s1, A1, n1, c1, s2, A2, n2, c2, rfl, g1, p0, p1, p2, p3, hx⟩ := P.a i hlt
      obtain ⟨bd, t1, T1, m1, d1, t2, T2, m2, d2, rfl, g2, q0, q1, q2, q3, hy⟩ := P.b i hlt
      have E := hid (hQR i hlt)
      have l0 := P.l0
      have l1 := P.l1
      have U0 : Spx w B0 B1 (some ad) (some bd) n Q R (ad.add (i * 4)) (bd.add (i * 4)) s1 A1 n1 c1 s2 A2 n2 c2 t1 T1 m1 d1 t2 T2 m2 d2 (Q i) (R i) wr.drew :=
        Spx.below ⟨p0, p1, p2, p3, q0, q1, q2, q3, hx, hy, by rw [block_of_add]; omega, by rw [block_of_add]; omega, P⟩ (dr0 (W := wr))
      have hcells := U0.cells
      clear P p0 p1 p2 p3 q0 q1 q2 q3 hx hy l0 l1 g1 g2 hQR
      go_upto_region 6 with fail
      go_region_held3 (fun w' => w'.cell? (ad.add (i * 4)) = some (.bool s1) ∧ w'.cell? ⟨(ad.add (i * 4)).block, (ad.add (i * 4)).off + 1, none⟩ = some (.slice A1 n1 c1) ∧ w'.cell? ⟨(ad.add (i * 4)).block, (ad.add (i * 4)).off + 2, none⟩ = some (.bool s2) ∧ w'.cell? ⟨(ad.add (i * 4)).block, (ad.add (i * 4)).off + 3, none⟩ = some (.slice A2 n2 c2) ∧ w'.cell? (bd.add (i * 4)) = some (.bool t1) ∧ w'.cell? ⟨(bd.add (i * 4)).block, (bd.add (i * 4)).off + 1, none⟩ = some (.slice T1 m1 d1) ∧ w'.cell? ⟨(bd.add (i * 4)).block, (bd.add (i * 4)).off + 2, none⟩ = some (.bool t2) ∧ w'.cell? ⟨(bd.add (i * 4)).block, (bd.add (i * 4)).off + 3, none⟩ = some (.slice T2 m2 d2)) (first | with_reducible exact Spx.cells U0 | with_reducible exact Spx.cells U1) (first
        | (go_at_call 16; with_reducible refine (SameQ U0.x U0.y E.out).mono ?_; rintro e wv1 ⟨rfl, hb1⟩; have U1 := U0.below hb1))
      have HP := hid U1.r
      clear U0 U1 hcells hb1
      go_wp2
      go_roundw
      case rel => exact ⟨i + 1, hlt, by go_num, HP.out⟩
      case measure => simp [intOf]; omega
    · have hbb := P.bl
      go_wp2
      go_ret
      exact ⟨rfl, hbb⟩

set_option maxRecDepth 100000 in
set_option maxHeartbeats 8000000 in
theorem SameCurve_true {w : World} {A B : Option Addr} {n c d m : Nat} {A' B' : Option Addr} {c' d' B0 B1 : Nat} {X Y : Nat → Int} {Q R : Nat → Rat} (h : Si w B0 A n X) (h' : Sf w B0 B m Q) (k : Si w B1 A' n Y) (k' : Sf w B1 B' m R) (hB0 : B0 ≤ w.heap.size) (hB1 : B1 ≤ w.heap.size) (hXY : ∀ i, i < n → X i = Y i) (hQR : ∀ i, i < m → Q i = R i) (hn : n ≤ 1000) (hm : m ≤ 1000) :
    Calls Tryz.prog 47 #[.agg #[.slice A n c, .slice B m d], .agg #[.slice A' n c', .slice B' m d']] w fun e w' => e = .returned (.bool true) ∧ Below w.heap.size w w' := by
  have b0 := two_new w (.cells #[.slice A n c, .slice B m d] 48) (.cells #[.slice A' n c', .slice B' m d'] 48)
  have hB := below_two w (.cells #[.slice A n c, .slice B m d] 48) (.cells #[.slice A' n c', .slice B' m d'] 48)
  obtain ⟨g, hg⟩ : ∃ g, w.heap.size = g := ⟨_, rfl⟩
  go_enter Tryz.func47, Tryz.ntmps47
  go_wp2_with fail
  rw [hg] at b0
  generalize (w.alloc (.cells #[.slice A n c, .slice B m d] 48)).alloc (.cells #[.slice A' n c', .slice B' m d'] 48) = W0 at *
  have ja : Bk W0 g _ := b0.1
  have jb : Bk W0 (g + 1) _ := b0.2
  have g0 := h.below hB hB0
  have g1 := h'.below hB hB0
  have g2 := k.below hB hB1
  have g3 := k'.below hB hB1
  have hsz := hB.size
  have e0 : B0 ≤ W0.heap.size := Nat.le_trans hB0 hsz
  have e1 : B1 ≤ W0.heap.size := Nat.le_trans hB1 hsz
  have HB := hid hB
  have Hx := hid hXY
  have Hq := hid hQR
  clear hB hg b0 h h' k k' hB0 hB1 hXY hQR hsz
  obtain ⟨x0, x1, -, -⟩ := ja.c2
  obtain ⟨x2, x3, -, -⟩ := jb.c2
  go_wp2_with fail
  refine (Ints_true g0 g2 e0 e1 Hx.out hn).mono ?_
  rintro e w1 ⟨rfl, hb1⟩
  have g1' := g1.below hb1 e0
  have g3' := g3.below hb1 e1
  have e0' := Nat.le_trans e0 hb1.size
  have e1' := Nat.le_trans e1 hb1.size
  have ja1 := ja.step hb1
  have jb1 := jb.step hb1
  have HB1 := hid (bthen HB.out hb1 (Nat.le_refl _))
  clear g0 g1 g2 g3 e0 e1 ja jb hb1 x0 x1 x2 x3 HB
  obtain ⟨x0, x1, -, -⟩ := ja1.c2
  obtain ⟨x2, x3, -, -⟩ := jb1.c2
  go_wp2_with fail
  refine (SameRats_true g1' g3' e0' e1' Hq.out hm).mono ?_
  rintro e w2 ⟨rfl, hb2⟩
  have hE := bthen HB1.out hb2 (Nat.le_refl _)
  clear hb2
  go_wp2
  go_ret
  exact ⟨rfl, hE⟩

end Go.Proofs.YtffipjofefemiaaGreatDoor

namespace Go.Proofs.YtffipjofefemiaaGreatDoor
open Go.RowKit Kb

section
variable {w w' : World} {r : Option Nat}
theorem El.offrow {B0 i kc : Nat} {bd : Addr} {s1 : Bool} {S1 : Option Addr} {ls1 cs1 : Nat} {s2 : Bool} {S2 : Option Addr} {ls2 cs2 : Nat} {q : Rat} (h : El w B0 bd i s1 S1 ls1 cs1 s2 S2 ls2 cs2 kc q) (hr : Nu w r) (hg : w.grownBy w' r) (hl : ∀ g, r = some g → B0 ≤ g) : El w' B0 bd i s1 S1 ls1 cs1 s2 S2 ls2 cs2 kc q := by
  have l : ∀ j, some (bd.add j).block ≠ r := fun j e => by have := hl _ e.symm; rw [block_of_add] at this; have := h.lb; omega
  exact ⟨hg.cell (a := bd.add (i * 4)) h.q0 (l _), hg.cell (a := ⟨(bd.add (i * 4)).block, (bd.add (i * 4)).off + 1, none⟩) h.q1 (l (i * 4)), hg.cell (a := ⟨(bd.add (i * 4)).block, (bd.add (i * 4)).off + 2, none⟩) h.q2 (l (i * 4)), hg.cell (a := ⟨(bd.add (i * 4)).block, (bd.add (i * 4)).off + 3, none⟩) h.q3 (l (i * 4)), h.r.offrow hr hg, h.lb, Nat.le_trans h.le hg.size⟩
theorem El.offb {B0 i kc g : Nat} {bd : Addr} {s1 : Bool} {S1 : Option Addr} {ls1 cs1 : Nat} {s2 : Bool} {S2 : Option Addr} {ls2 cs2 : Nat} {q : Rat} {C : Array Value} {T : TypeId} (h : El w B0 bd i s1 S1 ls1 cs1 s2 S2 ls2 cs2 kc q) (hb : w.heap[g]? = some (.cells C T (0, 0))) (hC : NoInt C) (hg : w.grownBy w' (some g)) (hl : B0 ≤ g) : El w' B0 bd i s1 S1 ls1 cs1 s2 S2 ls2 cs2 kc q := by
  have lb := h.lb
  have l1 := Nat.lt_of_lt_of_le h.lb h.le
  have l2 : bd.block ≠ g := by omega
  exact ⟨cell_grown (p := bd.add (i * 4)) hg (in_add l1) (ne_add l2) h.q0, cell_grown (p := ⟨(bd.add (i * 4)).block, (bd.add (i * 4)).off + 1, none⟩) hg (in_add l1) (ne_add l2) h.q1, cell_grown (p := ⟨(bd.add (i * 4)).block, (bd.add (i * 4)).off + 2, none⟩) hg (in_add l1) (ne_add l2) h.q2, cell_grown (p := ⟨(bd.add (i * 4)).block, (bd.add (i * 4)).off + 3, none⟩) hg (in_add l1) (ne_add l2) h.q3, h.r.offbox hb hC hg, h.lb, Nat.le_trans h.le hg.size⟩
/-- Rows of other elements lie apart. -/
theorem Ow.apart {N M e f s t n m : Nat} {u v : Value} {xs ys : List Value} (h : Ow w N e s u n xs) (k : Ow w M f t v m ys) (hef : e ≠ f) : u.ownBlock = none ∨ u.ownBlock ≠ v.ownBlock := by
  rcases h.own.2 with ⟨rfl, _⟩ | ⟨g, cap, cur, rfl, _, hg, _⟩
  · exact .inl rfl
  · right
    rcases k.own.2 with ⟨rfl, _⟩ | ⟨g', cap', cur', rfl, _, hg', _⟩
    · simp [Value.ownBlock]
    · intro e0
      have e1 : g = g' := by simpa [Value.ownBlock] using e0
      subst e1
      rw [hg] at hg'
      injection hg' with hg'
      injection hg' with _ h2 _
      exact hef h2
theorem cmpQ_ne {x y : Rat} (h : ¬ x = y) : cmpQ x y ≠ 0 := by
  unfold cmpQ
  by_cases h1 : x < y
  · rw [if_pos h1]; decide
  · rw [if_neg h1, if_neg h]; decide
theorem noInt_two (A B : Option Addr) (n c m d : Nat) : NoInt #[.slice A n c, .slice B m d] := noInt2 (fun _ _ => by simp) (fun _ _ => by simp)
end

theorem bk_two0 {w : World} {g : Nat} {T : TypeId} {a b a' : Value} (h : Bk w g (.cells #[a, b] T (0, 0))) : Bk (w.setCell ⟨g, 0, none⟩ a') g (.cells #[a', b] T (0, 0)) := by
  unfold Bk at h ⊢
  simp only [World.setCell, Array.getElem?_modify, h]
  simp
theorem bk_two1 {w : World} {g : Nat} {T : TypeId} {a b b' : Value} (h : Bk w g (.cells #[a, b] T (0, 0))) : Bk (w.setCell ⟨g, 1, none⟩ b') g (.cells #[a, b'] T (0, 0)) := by
  unfold Bk at h ⊢
  simp only [World.setCell, Array.getElem?_modify, h]
  simp

/-- What stays where a curve is built. -/
structure Bn (w : World) (gc : Nat) (oc : Obj) (gr go gb N B0 : Nat) (A : Option Addr) (n : Nat) (B : Option Addr) (m kc : Nat) (X : Nat → Int) (Q : Nat → Rat) (V1 : Option Addr) (l1 k1 : Nat) (V2 : Option Addr) (l2 k2 : Nat) (xs : List Int) (qs : List Rat) (cs : List Value) (p1 : Bool) (E1 : Option Addr) (z1 b1 : Nat) (p2 : Bool) (E2 : Option Addr) (z2 b2 : Nat) (q : Rat) (wx : World) : Prop where
  cv : Cv wx B0 A n B m kc X Q
  mc : Bk wx gc oc
  jr : Bk wx gr (.cells #[.slice none 0 0, .slice none 0 0] 48 (0, 0))
  jo : Bk wx go (.cells #[.slice V1 l1 k1, .slice V2 l2 k2] 48 (0, 0))
  jb : Bk wx gb (.cells #[.bool p1, .slice E1 z1 b1, .bool p2, .slice E2 z2 b2] 26 (0, 0))
  qb : Ri wx p1 E1 z1 b1 p2 E2 z2 b2 kc q
  co : Co wx N (.slice V1 l1 k1) (.slice V2 l2 k2) xs qs cs
  tb : Tb wx
  bl : Below w.heap.size w wx
/-- Where the blocks lie. -/
structure Sb (w : World) (gc gr go gb N B0 : Nat) : Prop where
  r : w.heap.size ≤ gr ∧ w.heap.size ≤ go ∧ w.heap.size ≤ gb
  l : gc < N ∧ gr < N ∧ go < N ∧ gb < N
  n : gc ≠ go ∧ gc ≠ gb ∧ gr ≠ go ∧ gr ≠ gb ∧ go ≠ gb
  b : B0 ≤ w.heap.size ∧ 0 < w.heap.size
section
variable {w : World} {gc : Nat} {oc : Obj} {gr go gb N B0 : Nat} {A : Option Addr} {n : Nat} {B : Option Addr} {m kc : Nat} {X : Nat → Int} {Q : Nat → Rat} {V1 : Option Addr} {l1 k1 : Nat} {V2 : Option Addr} {l2 k2 : Nat} {xs : List Int} {qs : List Rat} {cs : List Value} {p1 : Bool} {E1 : Option Addr} {z1 b1 : Nat} {p2 : Bool} {E2 : Option Addr} {z2 b2 : Nat} {q : Rat} {wx wy : World} {U : Option Addr} {lu cu : Nat} {x : Int} {t1 : Bool} {T1 : Option Addr} {lt1 ct1 : Nat} {t2 : Bool} {T2 : Option Addr} {lt2 ct2 : Nat} {q' : Rat}
theorem Bn.below (h : Bn w gc oc gr go gb N B0 A n B m kc X Q V1 l1 k1 V2 l2 k2 xs qs cs p1 E1 z1 b1 p2 E2 z2 b2 q wx) (hb : Below wx.heap.size wx wy) : Bn w gc oc gr go gb N B0 A n B m kc X Q V1 l1 k1 V2 l2 k2 xs qs cs p1 E1 z1 b1 p2 E2 z2 b2 q wy := ⟨h.cv.below hb, h.mc.step hb, h.jr.step hb, h.jo.step hb, h.jb.step hb, h.qb.below hb, h.co.below hb, h.tb.below hb, bthen h.bl hb (Nat.le_refl _)⟩
/-- A start has been appended, not yet stored. -/
theorem Bn.app1 (h : Bn w gc oc gr go gb N B0 A n B m kc X Q V1 l1 k1 V2 l2 k2 xs qs cs p1 E1 z1 b1 p2 E2 z2 b2 q wx) (hs : Sb w gc gr go gb N B0) (hr : Ow wy N 3 1 (.slice U lu cu) (xs.length + 1) (xs.map (.int .i64) ++ [.int .i64 x])) (hg : wx.grownBy wy (Value.ownBlock (.slice V1 l1 k1))) :
    Bn w gc oc gr go gb N B0 A n B m kc X Q U lu cu V2 l2 k2 (xs ++ [x]) qs cs p1 E1 z1 b1 p2 E2 z2 b2 q (wy.setCell ⟨go, 0, none⟩ (.slice U lu cu)) := by
  obtain ⟨⟨e1, e2, e3⟩, ⟨e4, e5, e6, e7⟩, ⟨e8, e9, e10, e11, e12⟩, e13, e14⟩ := hs
  have hf : ∀ k, Value.ownBlock (.slice V1 l1 k1) = some k → N ≤ k := fun k e => (h.co.r1.own.lt k e).1
  have hn : ∀ b, b < N → some b ≠ Value.ownBlock (.slice V1 l1 k1) := fun b hb e => by have := hf b e.symm; omega
  have hsz := h.bl.size
  have hr' : Ow wy N 3 1 (.slice U lu cu) (xs ++ [x]).length ((xs ++ [x]).map (.int .i64)) := by
    rw [List.length_append, List.map_append]; exact hr
  have jo := h.jo.offrow hg (hn _ (by omega))
  have hN := noInt_two V1 V2 l1 k1 l2 k2
  have hG : wy.grownBy (wy.setCell ⟨go, 0, none⟩ (.slice U lu cu)) (some go) := gb_set (World.grownBy.refl _ _) _ _
  have co : Co wy N (.slice U lu cu) (.slice V2 l2 k2) (xs ++ [x]) qs cs := ⟨hr', h.co.r2.kept hg ((h.co.r2.apart h.co.r1 (by decide))), h.co.q.offrow h.co.r1.all hg⟩
  have bl := h.bl.grown hg hsz (fun k e => by have := hf k e; omega)
  exact ⟨(h.cv.offrow h.co.r1.all hg (fun k e => by have := hf k e; omega)).off jo hN hG (by omega), (h.mc.offrow hg (hn _ (by omega))).grown hG (by omega), (h.jr.offrow hg (hn _ (by omega))).grown hG (by omega), bk_two0 jo, (h.jb.offrow hg (hn _ (by omega))).grown hG (by omega), (h.qb.offrow h.co.r1.all hg).offbox jo hN hG, co.offbox jo hN hG (by omega), (h.tb.offrow hg (fun k e => by have := hf k e; omega)).grown hG (by omega), bl.grown hG bl.size (fun k hk => by injection hk with hk; omega)⟩
/-- A slope has been appended. -/
theorem Bn.app2 (h : Bn w gc oc gr go gb N B0 A n B m kc X Q V1 l1 k1 V2 l2 k2 xs qs cs p1 E1 z1 b1 p2 E2 z2 b2 q wx) (hs : Sb w gc gr go gb N B0) (hr : Ow wy N 26 4 (.slice U lu cu) (qs.length + 1) (cs ++ [.bool t1, .slice T1 lt1 ct1, .bool t2, .slice T2 lt2 ct2])) (hq : Qf wx t1 T1 lt1 ct1 t2 T2 lt2 ct2 q') (hg : wx.grownBy wy (Value.ownBlock (.slice V2 l2 k2))) :
    Bn w gc oc gr go gb N B0 A n B m kc X Q V1 l1 k1 U lu cu xs (qs ++ [q']) (cs ++ [.bool t1, .slice T1 lt1 ct1, .bool t2, .slice T2 lt2 ct2]) p1 E1 z1 b1 p2 E2 z2 b2 q (wy.setCell ⟨go, 1, none⟩ (.slice U lu cu)) := by
  obtain ⟨⟨e1, e2, e3⟩, ⟨e4, e5, e6, e7⟩, ⟨e8, e9, e10, e11, e12⟩, e13, e14⟩ := hs
  have hf : ∀ k, Value.ownBlock (.slice V2 l2 k2) = some k → N ≤ k := fun k e => (h.co.r2.own.lt k e).1
  have hn : ∀ b, b < N → some b ≠ Value.ownBlock (.slice V2 l2 k2) := fun b hb e => by have := hf b e.symm; omega
  have hsz := h.bl.size
  have hr' : Ow wy N 26 4 (.slice U lu cu) (qs ++ [q']).length (cs ++ [.bool t1, .slice T1 lt1 ct1, .bool t2, .slice T2 lt2 ct2]) := by
    rw [List.length_append]; exact hr
  have jo := h.jo.offrow hg (hn _ (by omega))
  have hN := noInt_two V1 V2 l1 k1 l2 k2
  have hG : wy.grownBy (wy.setCell ⟨go, 1, none⟩ (.slice U lu cu)) (some go) := gb_set (World.grownBy.refl _ _) _ _
  have co : Co wy N (.slice V1 l1 k1) (.slice U lu cu) xs (qs ++ [q']) (cs ++ [.bool t1, .slice T1 lt1 ct1, .bool t2, .slice T2 lt2 ct2]) := ⟨h.co.r1.kept hg ((h.co.r1.apart h.co.r2 (by decide))), hr', (h.co.q.snoc hq).offrow h.co.r2.all hg⟩
  have bl := h.bl.grown hg hsz (fun k e => by have := hf k e; omega)
  exact ⟨(h.cv.offrow h.co.r2.all hg (fun k e => by have := hf k e; omega)).off jo hN hG (by omega), (h.mc.offrow hg (hn _ (by omega))).grown hG (by omega), (h.jr.offrow hg (hn _ (by omega))).grown hG (by omega), bk_two1 jo, (h.jb.offrow hg (hn _ (by omega))).grown hG (by omega), (h.qb.offrow h.co.r2.all hg).offbox jo hN hG, co.offbox jo hN hG (by omega), (h.tb.offrow hg (fun k e => by have := hf k e; omega)).grown hG (by omega), bl.grown hG bl.size (fun k hk => by injection hk with hk; omega)⟩
/-- The slope before is written. -/
theorem Bn.putb (h : Bn w gc oc gr go gb N B0 A n B m kc X Q V1 l1 k1 V2 l2 k2 xs qs cs p1 E1 z1 b1 p2 E2 z2 b2 q wx) (hs : Sb w gc gr go gb N B0) (hq : Ri wx t1 T1 lt1 ct1 t2 T2 lt2 ct2 kc q') :
    Bn w gc oc gr go gb N B0 A n B m kc X Q V1 l1 k1 V2 l2 k2 xs qs cs t1 T1 lt1 ct1 t2 T2 lt2 ct2 q' ((((wx.setCell ⟨gb, 0, none⟩ (.bool t1)).setCell ⟨gb, 1, none⟩ (.slice T1 lt1 ct1)).setCell ⟨gb, 2, none⟩ (.bool t2)).setCell ⟨gb, 3, none⟩ (.slice T2 lt2 ct2)) := by
  obtain ⟨⟨e1, e2, e3⟩, ⟨e4, e5, e6, e7⟩, ⟨e8, e9, e10, e11, e12⟩, e13, e14⟩ := hs
  have hN := noInt_four p1 p2 E1 E2 z1 b1 z2 b2
  have hG := gb4' wx gb (.bool t1) (.slice T1 lt1 ct1) (.bool t2) (.slice T2 lt2 ct2)
  exact ⟨h.cv.off h.jb hN hG (by omega), h.mc.grown hG (by omega), h.jr.grown hG (by omega), h.jo.grown hG (by omega), bk_put4 h.jb, hq.offbox h.jb hN hG, h.co.offbox h.jb hN hG (by omega), h.tb.grown hG (by omega), h.bl.grown hG h.bl.size (fun k hk => by injection hk with hk; omega)⟩
end
/-- The same, with slope i. -/
structure Be (w : World) (gc : Nat) (oc : Obj) (gr go gb N B0 : Nat) (A : Option Addr) (n : Nat) (B : Option Addr) (m kc : Nat) (X : Nat → Int) (Q : Nat → Rat) (V1 : Option Addr) (l1 k1 : Nat) (V2 : Option Addr) (l2 k2 : Nat) (xs : List Int) (qs : List Rat) (cs : List Value) (p1 : Bool) (E1 : Option Addr) (z1 b1 : Nat) (p2 : Bool) (E2 : Option Addr) (z2 b2 : Nat) (q : Rat) (bd : Addr) (i : Nat) (f1 : Bool) (F1 : Option Addr) (lf1 cf1 : Nat) (f2 : Bool) (F2 : Option Addr) (lf2 cf2 : Nat) (wx : World) : Prop where
  b : Bn w gc oc gr go gb N B0 A n B m kc X Q V1 l1 k1 V2 l2 k2 xs qs cs p1 E1 z1 b1 p2 E2 z2 b2 q wx
  e : El wx B0 bd i f1 F1 lf1 cf1 f2 F2 lf2 cf2 kc (Q i)
section
variable {w : World} {gc : Nat} {oc : Obj} {gr go gb N B0 : Nat} {A : Option Addr} {n : Nat} {B : Option Addr} {m kc : Nat} {X : Nat → Int} {Q : Nat → Rat} {V1 : Option Addr} {l1 k1 : Nat} {V2 : Option Addr} {l2 k2 : Nat} {xs : List Int} {qs : List Rat} {cs : List Value} {p1 : Bool} {E1 : Option Addr} {z1 b1 : Nat} {p2 : Bool} {E2 : Option Addr} {z2 b2 : Nat} {q : Rat} {bd : Addr} {i : Nat} {f1 : Bool} {F1 : Option Addr} {lf1 cf1 : Nat} {f2 : Bool} {F2 : Option Addr} {lf2 cf2 : Nat} {wx wy : World}
theorem Be.below (h : Be w gc oc gr go gb N B0 A n B m kc X Q V1 l1 k1 V2 l2 k2 xs qs cs p1 E1 z1 b1 p2 E2 z2 b2 q bd i f1 F1 lf1 cf1 f2 F2 lf2 cf2 wx) (hb : Below wx.heap.size wx wy) : Be w gc oc gr go gb N B0 A n B m kc X Q V1 l1 k1 V2 l2 k2 xs qs cs p1 E1 z1 b1 p2 E2 z2 b2 q bd i f1 F1 lf1 cf1 f2 F2 lf2 cf2 wy := ⟨h.b.below hb, h.e.below hb⟩
theorem Be.cells (h : Be w gc oc gr go gb N B0 A n B m kc X Q V1 l1 k1 V2 l2 k2 xs qs cs p1 E1 z1 b1 p2 E2 z2 b2 q bd i f1 F1 lf1 cf1 f2 F2 lf2 cf2 wx) : wx.cell? (bd.add (i * 4)) = some (.bool f1) ∧ wx.cell? ⟨(bd.add (i * 4)).block, (bd.add (i * 4)).off + 1, none⟩ = some (.slice F1 lf1 cf1) ∧ wx.cell? ⟨(bd.add (i * 4)).block, (bd.add (i * 4)).off + 2, none⟩ = some (.bool f2) ∧ wx.cell? ⟨(bd.add (i * 4)).block, (bd.add (i * 4)).off + 3, none⟩ = some (.slice F2 lf2 cf2) ∧ wx.cell? ⟨gb, 0, none⟩ = some (.bool p1) ∧ wx.cell? ⟨gb, 1, none⟩ = some (.slice E1 z1 b1) ∧ wx.cell? ⟨gb, 2, none⟩ = some (.bool p2) ∧ wx.cell? ⟨gb, 3, none⟩ = some (.slice E2 z2 b2) ∧ wx.cell? ⟨go, 0, none⟩ = some (.slice V1 l1 k1) ∧ wx.cell? ⟨go, 1, none⟩ = some (.slice V2 l2 k2) :=
  ⟨h.e.q0, h.e.q1, h.e.q2, h.e.q3, h.b.jb.c4.1, h.b.jb.c4.2.1, h.b.jb.c4.2.2.1, h.b.jb.c4.2.2.2.1, h.b.jo.c2.1, h.b.jo.c2.2.1⟩
end
section
variable {w : World} {gc : Nat} {oc : Obj} {gr go gb N B0 : Nat} {A : Option Addr} {n : Nat} {B : Option Addr} {m kc : Nat} {X : Nat → Int} {Q : Nat → Rat} {V1 : Option Addr} {l1 k1 : Nat} {V2 : Option Addr} {l2 k2 : Nat} {xs : List Int} {qs : List Rat} {cs : List Value} {p1 : Bool} {E1 : Option Addr} {z1 b1 : Nat} {p2 : Bool} {E2 : Option Addr} {z2 b2 : Nat} {q : Rat} {bd : Addr} {i : Nat} {f1 : Bool} {F1 : Option Addr} {lf1 cf1 : Nat} {f2 : Bool} {F2 : Option Addr} {lf2 cf2 : Nat} {wx wy : World} {U : Option Addr} {lu cu : Nat} {x : Int} {t1 : Bool} {T1 : Option Addr} {lt1 ct1 : Nat} {t2 : Bool} {T2 : Option Addr} {lt2 ct2 : Nat} {q' : Rat}
theorem Be.app1 (h : Be w gc oc gr go gb N B0 A n B m kc X Q V1 l1 k1 V2 l2 k2 xs qs cs p1 E1 z1 b1 p2 E2 z2 b2 q bd i f1 F1 lf1 cf1 f2 F2 lf2 cf2 wx) (hs : Sb w gc gr go gb N B0) (hr : Ow wy N 3 1 (.slice U lu cu) (xs.length + 1) (xs.map (.int .i64) ++ [.int .i64 x])) (hg : wx.grownBy wy (Value.ownBlock (.slice V1 l1 k1))) :
    Be w gc oc gr go gb N B0 A n B m kc X Q U lu cu V2 l2 k2 (xs ++ [x]) qs cs p1 E1 z1 b1 p2 E2 z2 b2 q bd i f1 F1 lf1 cf1 f2 F2 lf2 cf2 (wy.setCell ⟨go, 0, none⟩ (.slice U lu cu)) := by
  have hf : ∀ k, Value.ownBlock (.slice V1 l1 k1) = some k → N ≤ k := fun k e => (h.b.co.r1.own.lt k e).1
  obtain ⟨⟨e1, e2, e3⟩, ⟨e4, e5, e6, e7⟩, -, e13, -⟩ := id hs
  exact ⟨h.b.app1 hs hr hg, (h.e.offrow h.b.co.r1.all hg (fun k e => by have := hf k e; omega)).offb (h.b.jo.offrow hg (fun e => by have := hf _ e.symm; omega)) (noInt_two _ _ _ _ _ _) (gb_set (World.grownBy.refl _ _) _ _) (by omega)⟩
theorem Be.app2 (h : Be w gc oc gr go gb N B0 A n B m kc X Q V1 l1 k1 V2 l2 k2 xs qs cs p1 E1 z1 b1 p2 E2 z2 b2 q bd i f1 F1 lf1 cf1 f2 F2 lf2 cf2 wx) (hs : Sb w gc gr go gb N B0) (hr : Ow wy N 26 4 (.slice U lu cu) (qs.length + 1) (cs ++ [.bool t1, .slice T1 lt1 ct1, .bool t2, .slice T2 lt2 ct2])) (hq : Qf wx t1 T1 lt1 ct1 t2 T2 lt2 ct2 q') (hg : wx.grownBy wy (Value.ownBlock (.slice V2 l2 k2))) :
    Be w gc oc gr go gb N B0 A n B m kc X Q V1 l1 k1 U lu cu xs (qs ++ [q']) (cs ++ [.bool t1, .slice T1 lt1 ct1, .bool t2, .slice T2 lt2 ct2]) p1 E1 z1 b1 p2 E2 z2 b2 q bd i f1 F1 lf1 cf1 f2 F2 lf2 cf2 (wy.setCell ⟨go, 1, none⟩ (.slice U lu cu)) := by
  have hf : ∀ k, Value.ownBlock (.slice V2 l2 k2) = some k → N ≤ k := fun k e => (h.b.co.r2.own.lt k e).1
  obtain ⟨⟨e1, e2, e3⟩, ⟨e4, e5, e6, e7⟩, -, e13, -⟩ := id hs
  exact ⟨h.b.app2 hs hr hq hg, (h.e.offrow h.b.co.r2.all hg (fun k e => by have := hf k e; omega)).offb (h.b.jo.offrow hg (fun e => by have := hf _ e.symm; omega)) (noInt_two _ _ _ _ _ _) (gb_set (World.grownBy.refl _ _) _ _) (by omega)⟩
/-- Behind an append, ahead of its store: what the region still reads. -/
theorem Be.mid2 (h : Be w gc oc gr go gb N B0 A n B m kc X Q V1 l1 k1 V2 l2 k2 xs qs cs p1 E1 z1 b1 p2 E2 z2 b2 q bd i f1 F1 lf1 cf1 f2 F2 lf2 cf2 wx) (hs : Sb w gc gr go gb N B0) (hg : wx.grownBy wy (Value.ownBlock (.slice V2 l2 k2))) : wy.cell? (bd.add (i * 4)) = some (.bool f1) ∧ wy.cell? ⟨(bd.add (i * 4)).block, (bd.add (i * 4)).off + 1, none⟩ = some (.slice F1 lf1 cf1) ∧ wy.cell? ⟨(bd.add (i * 4)).block, (bd.add (i * 4)).off + 2, none⟩ = some (.bool f2) ∧ wy.cell? ⟨(bd.add (i * 4)).block, (bd.add (i * 4)).off + 3, none⟩ = some (.slice F2 lf2 cf2) ∧ wy.cell? ⟨gb, 0, none⟩ = some (.bool p1) ∧ wy.cell? ⟨gb, 1, none⟩ = some (.slice E1 z1 b1) ∧ wy.cell? ⟨gb, 2, none⟩ = some (.bool p2) ∧ wy.cell? ⟨gb, 3, none⟩ = some (.slice E2 z2 b2) ∧ wy.cell? ⟨go, 0, none⟩ = some (.slice V1 l1 k1) ∧ wy.cell? ⟨go, 1, none⟩ = some (.slice V2 l2 k2) := by
  have hf : ∀ k, Value.ownBlock (.slice V2 l2 k2) = some k → N ≤ k := fun k e => (h.b.co.r2.own.lt k e).1
  obtain ⟨⟨e1, e2, e3⟩, ⟨e4, e5, e6, e7⟩, -, e13, -⟩ := id hs
  have el := h.e.offrow h.b.co.r2.all hg (fun k e => by have := hf k e; omega)
  have jo := h.b.jo.offrow hg (fun e => by have := hf _ e.symm; omega)
  have jb := h.b.jb.offrow hg (fun e => by have := hf _ e.symm; omega)
  exact ⟨el.q0, el.q1, el.q2, el.q3, jb.c4.1, jb.c4.2.1, jb.c4.2.2.1, jb.c4.2.2.2.1, jo.c2.1, jo.c2.2.1⟩
end
theorem zu_int : ∀ u ∈ (Value.cells (.int .i64 0)), NoU u := fun u hu => by
  rw [show (Value.cells (.int .i64 0)) = #[.int .i64 0] from rfl] at hu
  simp at hu
  rw [hu]; exact noU_i64 _
theorem zu_rat : ∀ u ∈ (Value.cells (.agg #[.bool false, .slice none 0 0, .bool false, .slice none 0 0])), NoU u := fun u hu => by
  rw [show (Value.cells (.agg #[.bool false, .slice none 0 0, .bool false, .slice none 0 0])) = #[.bool false, .slice none 0 0, .bool false, .slice none 0 0] from rfl] at hu
  simp at hu
  rcases hu with rfl | rfl | rfl | rfl
  · exact noU_bool _
  · exact noU_slice _ _ _
  · exact noU_bool _
  · exact noU_slice _ _ _
theorem noU_four (a b : Bool) (A B : Option Addr) (n c m d : Nat) : ∀ u ∈ [Value.bool a, .slice A n c, .bool b, .slice B m d], NoU u := fun u hu => by
  simp only [List.mem_cons, List.mem_nil_iff, or_false] at hu
  rcases hu with rfl | rfl | rfl | rfl
  · exact noU_bool _
  · exact noU_slice _ _ _
  · exact noU_bool _
  · exact noU_slice _ _ _
theorem noU_one (x : Int) : ∀ u ∈ [Value.int .i64 x], NoU u := fun u hu => by rw [List.mem_singleton] at hu; rw [hu]; exact noU_i64 _

end Go.Proofs.YtffipjofefemiaaGreatDoor

namespace Go.Proofs.YtffipjofefemiaaGreatDoor
open Go.RowKit Kb

set_option maxRecDepth 100000 in
set_option maxHeartbeats 80000000 in
theorem bends_q {w : World} {A : Option Addr} {n c : Nat} {B : Option Addr} {m d B0 kc : Nat} {X : Nat → Int} {Q : Nat → Rat} (h : Cv w B0 A n B m kc X Q) (hnm : n ≤ m) (hn60 : n ≤ 60) (hk0 : 0 < kc) (hk : kc ≤ 400) (hT : Tb w) :
    Calls Tryz.prog 93 #[.slice A n c, .slice B m d] w fun e w' => ∃ V1 l1 k1 V2 l2 k2 cs N, e = .returned (.agg #[.slice V1 l1 k1, .slice V2 l2 k2]) ∧ Co w' N (.slice V1 l1 k1) (.slice V2 l2 k2) (Kc.bs X Q n) (Kc.bq Q n) cs ∧ w.heap.size ≤ N ∧ Below w.heap.size w w' := by
  obtain ⟨i0, hi0, hz0, hz1, hz2⟩ := info_parts Tryz.infoInt
  obtain ⟨r0, hr0, hy0, hy1, hy2⟩ := info_parts Tryz.infoRat
  have b0 := three_new w (.cells #[.slice none 0 0, .slice none 0 0] 48) (.cells #[.slice none 0 0, .slice none 0 0] 48) (.cells #[.bool false, .slice none 0 0, .bool false, .slice none 0 0] 26)
  have hB := (((Below.refl w.heap.size w).alloc (Nat.le_refl _) (.cells #[.slice none 0 0, .slice none 0 0] 48)).alloc (by simp) (.cells #[.slice none 0 0, .slice none 0 0] 48)).alloc (by simp; omega) (.cells #[.bool false, .slice none 0 0, .bool false, .slice none 0 0] 26)
  obtain ⟨g, hg⟩ : ∃ g, w.heap.size = g := ⟨_, rfl⟩
  have hle := h.le
  have hTl := hT.2
  go_enter Tryz.func93, Tryz.ntmps93
  go_wp2_with fail
  rw [hg] at b0
  generalize ((w.alloc (.cells #[.slice none 0 0, .slice none 0 0] 48)).alloc (.cells #[.slice none 0 0, .slice none 0 0] 48)).alloc (.cells #[.bool false, .slice none 0 0, .bool false, .slice none 0 0] 26) = W0 at *
  have P0 : Bn w g (.cells #[.slice none 0 0, .slice none 0 0] 48 (0, 0)) g (g + 1) (g + 1 + 1) (g + 1 + 1 + 1) B0 A n B m kc X Q none 0 0 none 0 0 (Kc.bs X Q 0) (Kc.bq Q 0) [] false none 0 0 false none 0 0 (Kc.lst Q 0) W0 := ⟨h.below hB, b0.1, b0.1, b0.2.1, b0.2.2, ri_zero _ _, Co.nil _ _, hT.below hB, hB⟩
  have HS := hid (show Sb w g g (g + 1) (g + 1 + 1) (g + 1 + 1 + 1) B0 from ⟨⟨by omega, by omega, by omega⟩, ⟨by omega, by omega, by omega, by omega⟩, ⟨by omega, by omega, by omega, by omega, by omega⟩, by omega, by omega⟩)
  have Hi := hid hi0
  have Hr := hid hr0
  clear h hT hB hg b0 hle hTl hi0 hr0
  go_loopw [13] (fun iv wr => ∃ i V1 l1 k1 V2 l2 k2 cs p1 E1 z1 b1 p2 E2 z2 b2, i ≤ n ∧ iv = .int .i64 ((i : Nat) : Int) ∧ Bn w g (.cells #[.slice none 0 0, .slice none 0 0] 48 (0, 0)) g (g + 1) (g + 1 + 1) (g + 1 + 1 + 1) B0 A n B m kc X Q V1 l1 k1 V2 l2 k2 (Kc.bs X Q i) (Kc.bq Q i) cs p1 E1 z1 b1 p2 E2 z2 b2 (Kc.lst Q i) wr) (fun iv _ => n - (intOf iv).toNat)
  case atStart => exact ⟨0, none, 0, 0, none, 0, 0, [], false, none, 0, 0, false, none, 0, 0, Nat.zero_le _, rfl, P0⟩
  case round =>
    obtain ⟨i, V1, l1, k1, V2, l2, k2, cs, p1, E1, z1, b1, p2, E2, z2, b2, hi', rfl, P⟩ := hrel
    clear P0
    by_cases hi : i < n
    · obtain ⟨ad, hA, es⟩ := P.cv.es hi
      obtain ⟨bd, f1, F1, lf1, cf1, f2, F2, lf2, cf2, hBd, el⟩ := P.cv.el (i := i) (by omega)
      have him : i < m := by omega
      subst hA
      subst hBd
      have xs0 := es.s
      have D0 : Be w g (.cells #[.slice none 0 0, .slice none 0 0] 48 (0, 0)) g (g + 1) (g + 1 + 1) (g + 1 + 1 + 1) B0 (some ad) n (some bd) m kc X Q V1 l1 k1 V2 l2 k2 (Kc.bs X Q i) (Kc.bq Q i) cs p1 E1 z1 b1 p2 E2 z2 b2 (Kc.lst Q i) bd i f1 F1 lf1 cf1 f2 F2 lf2 cf2 wr.drew := Be.below ⟨P, el⟩ (dr0 (W := wr))
      have hcells := D0.cells
      have HL := hid (show (Kc.bs X Q i).length ≤ 60 ∧ (Kc.bq Q i).length ≤ 60 by have h1 := Kc.bs_len X Q i; have h2 := Kc.bq_len X Q i; omega)
      by_cases hc : Q i = Kc.lst Q i
      · have HE := hid hc
        clear hc
        go_upto_region 5 with fail
        clear P el es
        go_region_held3 (fun w' => w'.cell? (bd.add (i * 4)) = some (.bool f1) ∧ w'.cell? ⟨(bd.add (i * 4)).block, (bd.add (i * 4)).off + 1, none⟩ = some (.slice F1 lf1 cf1) ∧ w'.cell? ⟨(bd.add (i * 4)).block, (bd.add (i * 4)).off + 2, none⟩ = some (.bool f2) ∧ w'.cell? ⟨(bd.add (i * 4)).block, (bd.add (i * 4)).off + 3, none⟩ = some (.slice F2 lf2 cf2) ∧ w'.cell? ⟨g + 1 + 1, 0, none⟩ = some (.bool p1) ∧ w'.cell? ⟨g + 1 + 1, 1, none⟩ = some (.slice E1 z1 b1) ∧ w'.cell? ⟨g + 1 + 1, 2, none⟩ = some (.bool p2) ∧ w'.cell? ⟨g + 1 + 1, 3, none⟩ = some (.slice E2 z2 b2) ∧ w'.cell? ⟨g + 1, 0, none⟩ = some (.slice V1 l1 k1) ∧ w'.cell? ⟨g + 1, 1, none⟩ = some (.slice V2 l2 k2)) (first | with_reducible exact Be.cells D0 | with_reducible exact Be.cells D1) (first
          | (go_at_call 25; with_reducible refine (CmpQeq D0.e.r.q D0.b.qb.q hk0 hk0 hk hk D0.b.tb HE.out).mono ?_; rintro e wv1 ⟨rfl, hb1⟩; have D1 := D0.below hb1))
        have HP := hid D1.b
        clear D0 D1 hcells hb1 xs0
        go_wp2
        go_roundw
        case rel => exact ⟨i + 1, V1, l1, k1, V2, l2, k2, cs, p1, E1, z1, b1, p2, E2, z2, b2, by omega, by go_num, by rw [Kc.bs_skip HE.out, Kc.bq_skip HE.out, show Kc.lst Q (i + 1) = Kc.lst Q i from HE.out]; exact HP.out⟩
        case measure => simp [intOf]; omega
      · have HE := hid hc
        have hz : (cmpQ (Q i) (Kc.lst Q i) == 0) = false := beq_eq_false_iff_ne.2 (cmpQ_ne hc)
        have hd : decide (cmpQ (Q i) (Kc.lst Q i) = 0) = false := decide_eq_false (cmpQ_ne hc)
        clear hc
        go_upto_region 5 with fail
        clear P el es
        go_region_held3 (fun w' => w'.cell? (bd.add (i * 4)) = some (.bool f1) ∧ w'.cell? ⟨(bd.add (i * 4)).block, (bd.add (i * 4)).off + 1, none⟩ = some (.slice F1 lf1 cf1) ∧ w'.cell? ⟨(bd.add (i * 4)).block, (bd.add (i * 4)).off + 2, none⟩ = some (.bool f2) ∧ w'.cell? ⟨(bd.add (i * 4)).block, (bd.add (i * 4)).off + 3, none⟩ = some (.slice F2 lf2 cf2) ∧ w'.cell? ⟨g + 1 + 1, 0, none⟩ = some (.bool p1) ∧ w'.cell? ⟨g + 1 + 1, 1, none⟩ = some (.slice E1 z1 b1) ∧ w'.cell? ⟨g + 1 + 1, 2, none⟩ = some (.bool p2) ∧ w'.cell? ⟨g + 1 + 1, 3, none⟩ = some (.slice E2 z2 b2) ∧ w'.cell? ⟨g + 1, 0, none⟩ = some (.slice V1 l1 k1) ∧ w'.cell? ⟨g + 1, 1, none⟩ = some (.slice V2 l2 k2)) (first | with_reducible exact Be.cells D0 | with_reducible exact Be.cells D1) (first
          | (go_at_call 25; with_reducible refine (CmpRat_q D0.e.r.q D0.b.qb.q hk0 hk0 hk hk D0.b.tb).mono ?_; rintro e wv1 ⟨rfl, hb1⟩; have D1 := D0.below hb1))
        clear D0 hcells hb1 hz hd
        -- the start is appended
        have D2 := D1.below (alo (o := .cells #[.int .i64 (X i)] 3))
        obtain ⟨_, _, _, _, _, _, _, _, y8, y9⟩ := D1.cells
        clear D1
        go_wp2_with (at_builtin; (refine wpList_append_ow rfl (.tmp 26) (.tmp 28) 45 rfl Tryz.underlying45 Hi.out hz0 hz1 hz2 rfl (by decide) zu_int rfl D2.b.co.r1 (ad := ⟨wv1.heap.size, 0, none⟩) (c := 1) (news := [.int .i64 (X i)]) rfl rfl (cell_one_new _ _ _) (one_cell _ rfl) (noU_one _) (by decide) (by unfold maxLen; have := HL.out; omega) (by have := HL.out; omega) (by have := D2.b.jb.lt; omega) ?_))
        intro gn cap w2 hown hgrow hat hlt
        have D3 := hid (D2.app1 HS.out hown hgrow)
        obtain ⟨a0, a1, a2, a3⟩ := (D2.b.jo.offrow hgrow (fun e => by have := (D2.b.co.r1.own.lt _ e.symm).1; omega)).c2
        clear D2 hown hgrow hat hlt y8 y9
        go_upto_region 7 with fail
        have D3 := D3.out
        clear a0 a1 a2 a3
        generalize w2.setCell ⟨g + 1, 0, none⟩ (.slice (some ⟨gn, 0, none⟩) ((Kc.bs X Q i).length + 1) cap) = W3 at *
        obtain ⟨U1, lu1, cu1, D3⟩ : ∃ U1 lu1 cu1, Be w g (.cells #[.slice none 0 0, .slice none 0 0] 48 (0, 0)) g (g + 1) (g + 1 + 1) (g + 1 + 1 + 1) B0 (some ad) n (some bd) m kc X Q U1 lu1 cu1 V2 l2 k2 (Kc.bs X Q i ++ [X i]) (Kc.bq Q i) cs p1 E1 z1 b1 p2 E2 z2 b2 (Kc.lst Q i) bd i f1 F1 lf1 cf1 f2 F2 lf2 cf2 W3 := ⟨_, _, _, D3⟩
        have Q0 := D3.below (dr0 (W := W3))
        clear D3
        refine wp_region_late 10 (fun w' => w'.cell? (bd.add (i * 4)) = some (.bool f1) ∧ w'.cell? ⟨(bd.add (i * 4)).block, (bd.add (i * 4)).off + 1, none⟩ = some (.slice F1 lf1 cf1) ∧ w'.cell? ⟨(bd.add (i * 4)).block, (bd.add (i * 4)).off + 2, none⟩ = some (.bool f2) ∧ w'.cell? ⟨(bd.add (i * 4)).block, (bd.add (i * 4)).off + 3, none⟩ = some (.slice F2 lf2 cf2) ∧ w'.cell? ⟨g + 1 + 1, 0, none⟩ = some (.bool p1) ∧ w'.cell? ⟨g + 1 + 1, 1, none⟩ = some (.slice E1 z1 b1) ∧ w'.cell? ⟨g + 1 + 1, 2, none⟩ = some (.bool p2) ∧ w'.cell? ⟨g + 1 + 1, 3, none⟩ = some (.slice E2 z2 b2) ∧ w'.cell? ⟨g + 1, 0, none⟩ = some (.slice U1 lu1 cu1) ∧ w'.cell? ⟨g + 1, 1, none⟩ = some (.slice V2 l2 k2)) (by kernel_rfl) (by with_reducible exact Be.cells Q0) (fun hHeld => ?_)
        refine wpLate_take 0 [0, 10] (v := ?_) rfl (by kernel_rfl) (by kernel_rfl) (by kernel_rfl) (fun _ _ _ h => h) (by kernel_rfl) (by kernel_rfl) (Or.inl ⟨by rfl, ?_⟩) hHeld ?_
        rotate_left
        · intro w hSw
          (try dsimp only at hSw)
          go_simp
          (try with_reducible rfl)
        (try simp only [Act.put, List.setIfInBounds_toArray, List.set_cons_zero, List.set_cons_succ])
        refine wpLate_take 1 [1, 10] (v := ?_) rfl (by kernel_rfl) (by kernel_rfl) (by kernel_rfl) (fun _ _ _ h => h) (by kernel_rfl) (by kernel_rfl) (Or.inl ⟨by rfl, ?_⟩) hHeld ?_
        rotate_left
        · intro w hSw
          (try dsimp only at hSw)
          go_simp
          (try with_reducible rfl)
        (try simp only [Act.put, List.setIfInBounds_toArray, List.set_cons_zero, List.set_cons_succ])
        refine wpLate_take 2 [2, 10] (v := ?_) rfl (by kernel_rfl) (by kernel_rfl) (by kernel_rfl) (fun _ _ _ h => h) (by kernel_rfl) (by kernel_rfl) (Or.inl ⟨by rfl, ?_⟩) hHeld ?_
        rotate_left
        · intro w hSw
          (try dsimp only at hSw)
          go_simp
          (try with_reducible rfl)
        (try simp only [Act.put, List.setIfInBounds_toArray, List.set_cons_zero, List.set_cons_succ])
        refine wpLate_take 3 [3, 10] (v := ?_) rfl (by kernel_rfl) (by kernel_rfl) (by kernel_rfl) (fun _ _ _ h => h) (by kernel_rfl) (by kernel_rfl) (Or.inl ⟨by rfl, ?_⟩) hHeld ?_
        rotate_left
        · intro w hSw
          (try dsimp only at hSw)
          go_simp
          (try with_reducible rfl)
        (try simp only [Act.put, List.setIfInBounds_toArray, List.set_cons_zero, List.set_cons_succ])
        refine wpLate_take 4 [4, 10] (v := ?_) rfl (by kernel_rfl) (by kernel_rfl) (by kernel_rfl) (fun _ _ _ h => h) (by kernel_rfl) (by kernel_rfl) (Or.inl ⟨by rfl, ?_⟩) hHeld ?_
        rotate_left
        · intro w hSw
          (try dsimp only at hSw)
          go_simp
          (try with_reducible rfl)
        (try simp only [Act.put, List.setIfInBounds_toArray, List.set_cons_zero, List.set_cons_succ])
        refine wpLate_take 5 [5, 10] (v := ?_) rfl (by kernel_rfl) (by kernel_rfl) (by kernel_rfl) (fun _ _ _ h => h) (by kernel_rfl) (by kernel_rfl) (Or.inl ⟨by rfl, ?_⟩) hHeld ?_
        rotate_left
        · intro w hSw
          (try dsimp only at hSw)
          go_simp
          (try with_reducible rfl)
        (try simp only [Act.put, List.setIfInBounds_toArray, List.set_cons_zero, List.set_cons_succ])
        refine wpLate_one 6 (by kernel_rfl) rfl (fun K hK => ?_)
        go_simp
        with_reducible refine (normal_q Q0.e.r.q hk0 (by omega) Q0.b.tb).mono ?_
        rintro e wv2 ⟨t1, T1, lt1, ct1, t2, T2, lt2, ct2, rfl, hq, hb2⟩
        have Q1 := Q0.below hb2
        clear hHeld
        refine hK.out _ _ (by with_reducible exact Be.cells Q1) (fun hHeld => ?_)
        clear hK K
        (try simp only [Act.put, List.setIfInBounds_toArray, List.set_cons_zero, List.set_cons_succ])
        refine wpLate_one 7 (by kernel_rfl) rfl (fun K hK => ?_)
        go_simp
        have hnews := World.news_of_block (heap_alloc_new wv2 (.cells #[.bool t1, .slice T1 lt1 ct1, .bool t2, .slice T2 lt2 ct2] 26))
        have Q2 := Q1.below (alo (o := .cells #[.bool t1, .slice T1 lt1 ct1, .bool t2, .slice T2 lt2 ct2] 26))
        replace hq := hq.below (alo (o := .cells #[.bool t1, .slice T1 lt1 ct1, .bool t2, .slice T2 lt2 ct2] 26))
        clear hHeld
        refine hK.out _ _ (by with_reducible exact Be.cells Q2) (fun hHeld => ?_)
        clear hK K
        (try simp only [Act.put, List.setIfInBounds_toArray, List.set_cons_zero, List.set_cons_succ])
        refine wpLate_one 8 (by kernel_rfl) rfl (fun K hK => ?_)
        rw [if_pos (by rfl)]

        refine wp_append_ow (.tmp 32) (.tmp 38) 46 rfl Tryz.underlying46 Hr.out hy0 hy1 hy2 rfl (by decide) zu_rat (v := .slice V2 l2 k2) rfl Q2.b.co.r2 (ad := ⟨wv2.heap.size, 0, none⟩) (c := 1) (news := [.bool t1, .slice T1 lt1 ct1, .bool t2, .slice T2 lt2 ct2]) rfl rfl hnews (four_one _ _ _ _ _ _ _ _) (noU_four _ _ _ _ _ _ _ _) (by decide) (by unfold maxLen; have := HL.out; omega) (by have := HL.out; omega) (by have := Q2.b.jb.lt; omega) ?_
        intro gm cap2 w5 hown2 hgrow2 hat2 hlt2
        clear hHeld
        refine hK.out _ _ (by with_reducible exact Be.mid2 Q2 HS.out hgrow2) (fun hHeld => ?_)
        clear hK K
        (try simp only [Act.put, List.setIfInBounds_toArray, List.set_cons_zero, List.set_cons_succ])
        refine wpLate_take 9 [9, 10] (v := ?_) rfl (by kernel_rfl) (by kernel_rfl) (by kernel_rfl) (fun _ _ _ h => h) (by kernel_rfl) (by kernel_rfl) (Or.inl ⟨by rfl, ?_⟩) hHeld ?_
        rotate_left
        · intro w hSw
          (try dsimp only at hSw)
          go_simp
          (try with_reducible rfl)
        (try simp only [Act.put, List.setIfInBounds_toArray, List.set_cons_zero, List.set_cons_succ])
        obtain ⟨a0, a1, a2, a3⟩ := (Q2.b.jo.offrow hgrow2 (fun e => by have := (Q2.b.co.r2.own.lt _ e.symm).1; omega)).c2
        clear hHeld
        refine wpLate_last 10 rfl (by kernel_rfl) (by kernel_rfl) rfl (fun K hK => ?_)
        go_simp
        refine hK.out _ _ ?_
        clear hK K
        (try simp only [Act.put, List.setIfInBounds_toArray, List.set_cons_zero, List.set_cons_succ])
        have D4 := Q2.app2 HS.out hown2 hq hgrow2
        clear Q0 Q1 Q2 hq hown2 hgrow2 hat2 hlt2 hnews hb2 a0 a1 a2 a3 xs0
        generalize w5.setCell ⟨g + 1, 1, none⟩ (.slice (some ⟨gm, 0, none⟩) ((Kc.bq Q i).length + 1) cap2) = W5 at *
        have q0 := D4.e.q0
        have q1 := D4.e.q1
        have q2 := D4.e.q2
        have q3 := D4.e.q3
        obtain ⟨y0, y1, y2, y3, y4, y5, y6, y7⟩ := D4.b.jb.c4
        have hlj := D4.b.jb.lt
        have HP := hid (D4.b.putb HS.out D4.e.r)
        clear D4
        go_wp2
        go_roundw
        case rel => exact ⟨i + 1, _, _, _, _, _, _, _, f1, F1, lf1, cf1, f2, F2, lf2, cf2, by omega, by go_num, by rw [Kc.bs_take HE.out, Kc.bq_take HE.out]; exact HP.out⟩
        case measure => simp [intOf]; omega
    · have hin : n = i := by omega
      subst hin
      obtain ⟨x0, x1, -, -⟩ := P.jo.c2
      obtain ⟨i0', i1', i2', i3'⟩ := P.jr.c2
      have hl7 := P.jr.lt
      have hG := gb2 wr g 0 1 (.slice V1 l1 k1) (.slice V2 l2 k2)
      have HC := hid (P.co.offbox P.jr (noInt_two _ _ _ _ _ _) hG (by omega))
      have h11 := hid (P.bl.grown hG P.bl.size (fun k hk => by injection hk with hk; have := HS.out.r.1; omega))
      have Hg := hid (show w.heap.size ≤ g + 1 + 1 + 1 by have h1 := HS.out.r.1; omega)
      clear P
      go_wp2
      exact bodyPost_ret (v := .agg #[.slice V1 l1 k1, .slice V2 l2 k2]) (by simp [results, Tryz.results93, go_sem, i0', i1']) rfl ⟨_, _, _, _, _, _, _, _, rfl, HC.out, Hg.out, h11.out⟩

end Go.Proofs.YtffipjofefemiaaGreatDoor

namespace Go.Proofs.YtffipjofefemiaaGreatDoor
open Go.RowKit Kb

/-- What stays in Normal's round: a slope in its box. -/
structure Bs (w : World) (gc : Nat) (oc : Obj) (gr go gb N B0 : Nat) (A : Option Addr) (n : Nat) (B : Option Addr) (m kc : Nat) (X : Nat → Int) (Q : Nat → Rat) (c d : Nat) (V1 : Option Addr) (l1 k1 : Nat) (V2 : Option Addr) (l2 k2 : Nat) (xs : List Int) (qs : List Rat) (cs : List Value) (p1 : Bool) (E1 : Option Addr) (z1 b1 : Nat) (p2 : Bool) (E2 : Option Addr) (z2 b2 : Nat) (q : Rat) (ad : Addr) (i : Nat) (gs : Nat) (t1 : Bool) (T1 : Option Addr) (lt1 ct1 : Nat) (t2 : Bool) (T2 : Option Addr) (lt2 ct2 : Nat) (s : Rat) (wx : World) : Prop where
  b : Bn w gc oc gr go gb N B0 A n B m kc X Q V1 l1 k1 V2 l2 k2 xs qs cs p1 E1 z1 b1 p2 E2 z2 b2 q wx
  o : oc = (.cells #[.slice A n c, .slice B n d] 48 (0, 0))
  a : Es wx B0 ad i (X i)
  s : Jq wx gs t1 T1 lt1 ct1 t2 T2 lt2 ct2 s
  n1 : Value.ownBlock (.slice V1 l1 k1) ≠ some gs
  n2 : Value.ownBlock (.slice V2 l2 k2) ≠ some gs
  ng : N ≤ gs
section
variable {w : World} {gc : Nat} {oc : Obj} {gr go gb N B0 : Nat} {A : Option Addr} {n : Nat} {B : Option Addr} {m kc : Nat} {X : Nat → Int} {Q : Nat → Rat} {c d : Nat} {V1 : Option Addr} {l1 k1 : Nat} {V2 : Option Addr} {l2 k2 : Nat} {xs : List Int} {qs : List Rat} {cs : List Value} {p1 : Bool} {E1 : Option Addr} {z1 b1 : Nat} {p2 : Bool} {E2 : Option Addr} {z2 b2 : Nat} {q : Rat} {ad : Addr} {i : Nat} {gs : Nat} {t1 : Bool} {T1 : Option Addr} {lt1 ct1 : Nat} {t2 : Bool} {T2 : Option Addr} {lt2 ct2 : Nat} {s : Rat} {wx wy : World} {gn lu cu : Nat} {x : Int}
theorem Bs.below (h : Bs w gc oc gr go gb N B0 A n B m kc X Q c d V1 l1 k1 V2 l2 k2 xs qs cs p1 E1 z1 b1 p2 E2 z2 b2 q ad i gs t1 T1 lt1 ct1 t2 T2 lt2 ct2 s wx) (hb : Below wx.heap.size wx wy) : Bs w gc oc gr go gb N B0 A n B m kc X Q c d V1 l1 k1 V2 l2 k2 xs qs cs p1 E1 z1 b1 p2 E2 z2 b2 q ad i gs t1 T1 lt1 ct1 t2 T2 lt2 ct2 s wy := ⟨h.b.below hb, h.o, h.a.below hb, h.s.below hb, h.n1, h.n2, h.ng⟩
theorem Bs.cells (h : Bs w gc oc gr go gb N B0 A n B m kc X Q c d V1 l1 k1 V2 l2 k2 xs qs cs p1 E1 z1 b1 p2 E2 z2 b2 q ad i gs t1 T1 lt1 ct1 t2 T2 lt2 ct2 s wx) : wx.cell? ⟨gc, 0, none⟩ = some (.slice A n c) ∧ wx.cell? (ad.add i) = some (.int .i64 (X i)) ∧ wx.cell? ⟨go, 0, none⟩ = some (.slice V1 l1 k1) ∧ wx.cell? ⟨go, 1, none⟩ = some (.slice V2 l2 k2) := by
  have m := h.b.mc
  rw [h.o] at m
  exact ⟨m.c2.1, h.a.s, h.b.jo.c2.1, h.b.jo.c2.2.1⟩
theorem Jq.offrow {r : Option Nat} (h : Jq wx gs t1 T1 lt1 ct1 t2 T2 lt2 ct2 s) (hr : Nu wx r) (hg : wx.grownBy wy r) (hn : some gs ≠ r) : Jq wy gs t1 T1 lt1 ct1 t2 T2 lt2 ct2 s := ⟨h.b.offrow hg hn, h.z.offrow hr hg⟩
theorem Bs.mid1 (h : Bs w gc oc gr go gb N B0 A n B m kc X Q c d V1 l1 k1 V2 l2 k2 xs qs cs p1 E1 z1 b1 p2 E2 z2 b2 q ad i gs t1 T1 lt1 ct1 t2 T2 lt2 ct2 s wx) (hs : Sb w gc gr go gb N B0) (hg : wx.grownBy wy (Value.ownBlock (.slice V1 l1 k1))) : wy.cell? ⟨gc, 0, none⟩ = some (.slice A n c) ∧ wy.cell? (ad.add i) = some (.int .i64 (X i)) ∧ wy.cell? ⟨go, 0, none⟩ = some (.slice V1 l1 k1) ∧ wy.cell? ⟨go, 1, none⟩ = some (.slice V2 l2 k2) := by
  have hf : ∀ k, Value.ownBlock (.slice V1 l1 k1) = some k → N ≤ k := fun k e => (h.b.co.r1.own.lt k e).1
  obtain ⟨⟨e1, e2, e3⟩, ⟨e4, e5, e6, e7⟩, -, e13, -⟩ := hs
  have jo := h.b.jo.offrow hg (fun e => by have := hf _ e.symm; omega)
  have jm := h.b.mc.offrow hg (fun e => by have := hf _ e.symm; omega)
  rw [h.o] at jm
  have la := h.a.la
  exact ⟨jm.c2.1, hg.cell (a := ad.add i) h.a.s (fun e => by have := hf _ e.symm; rw [block_of_add] at this; omega), jo.c2.1, jo.c2.2.1⟩
theorem Bs.app1 (h : Bs w gc oc gr go gb N B0 A n B m kc X Q c d V1 l1 k1 V2 l2 k2 xs qs cs p1 E1 z1 b1 p2 E2 z2 b2 q ad i gs t1 T1 lt1 ct1 t2 T2 lt2 ct2 s wx) (hs : Sb w gc gr go gb N B0) (hr : Ow wy N 3 1 (.slice (some ⟨gn, 0, none⟩) lu cu) (xs.length + 1) (xs.map (.int .i64) ++ [.int .i64 x])) (hg : wx.grownBy wy (Value.ownBlock (.slice V1 l1 k1))) (hat : Value.ownBlock (.slice V1 l1 k1) = some gn ∨ gn = wx.heap.size) :
    Bs w gc oc gr go gb N B0 A n B m kc X Q c d (some ⟨gn, 0, none⟩) lu cu V2 l2 k2 (xs ++ [x]) qs cs p1 E1 z1 b1 p2 E2 z2 b2 q ad i gs t1 T1 lt1 ct1 t2 T2 lt2 ct2 s (wy.setCell ⟨go, 0, none⟩ (.slice (some ⟨gn, 0, none⟩) lu cu)) := by
  have hf : ∀ k, Value.ownBlock (.slice V1 l1 k1) = some k → N ≤ k := fun k e => (h.b.co.r1.own.lt k e).1
  have hb := h.b.app1 hs hr hg
  obtain ⟨⟨e1, e2, e3⟩, ⟨e4, e5, e6, e7⟩, -, e13, -⟩ := hs
  have hng := h.ng
  have jo := h.b.jo.offrow hg (fun e => by have := hf _ e.symm; omega)
  have hN := noInt_two V1 V2 l1 k1 l2 k2
  have hG : wy.grownBy (wy.setCell ⟨go, 0, none⟩ (.slice (some ⟨gn, 0, none⟩) lu cu)) (some go) := gb_set (World.grownBy.refl _ _) _ _
  have hne : gn ≠ gs := fun e => by
    rcases hat with h1 | h1
    · exact h.n1 (by rw [h1, e])
    · have := h.s.b.lt; omega
  have la := h.a.la
  have s1 := hg.cell (a := ad.add i) h.a.s (fun e => by have := hf _ e.symm; rw [block_of_add] at this; omega)
  have l1 : (ad.add i).block < wy.heap.size := by rw [block_of_add]; have := h.a.le; have := hg.size; omega
  exact ⟨hb, h.o, ⟨cell_grown (p := ad.add i) hG l1 (by rw [block_of_add]; omega) s1, la, hb.cv.le⟩, (h.s.offrow h.b.co.r1.all hg (fun e => h.n1 e.symm)).offb jo hN hG (by omega), by simpa [Value.ownBlock] using hne, h.n2, hng⟩
end

set_option maxRecDepth 100000 in
set_option maxHeartbeats 80000000 in
theorem rNormal {w : World} {A : Option Addr} {n c : Nat} {B : Option Addr} {d B0 kc : Nat} {X : Nat → Int} {Q : Nat → Rat} (h : Cv w B0 A n B n kc X Q) (hn60 : n ≤ 60) (hk0 : 2 ≤ kc) (hk : kc ≤ 190) (hT : Tb w) :
    Calls Tryz.prog 96 #[.agg #[.slice A n c, .slice B n d]] w fun e w' => ∃ V1 l1 k1 V2 l2 k2 cs N, e = .returned (.agg #[.slice V1 l1 k1, .slice V2 l2 k2]) ∧ Co w' N (.slice V1 l1 k1) (.slice V2 l2 k2) (Kc.bs X Q n) (Kc.bq Q n) cs ∧ w.heap.size ≤ N ∧ Below w.heap.size w w' := by
  obtain ⟨i0, hi0, hz0, hz1, hz2⟩ := info_parts Tryz.infoInt
  obtain ⟨r0, hr0, hy0, hy1, hy2⟩ := info_parts Tryz.infoRat
  have b0 := three_new w (.cells #[.slice A n c, .slice B n d] 48) (.cells #[.slice none 0 0, .slice none 0 0] 48) (.cells #[.slice none 0 0, .slice none 0 0] 48)
  have hB := (((Below.refl w.heap.size w).alloc (Nat.le_refl _) (.cells #[.slice A n c, .slice B n d] 48)).alloc (by simp) (.cells #[.slice none 0 0, .slice none 0 0] 48)).alloc (by simp; omega) (.cells #[.slice none 0 0, .slice none 0 0] 48)
  obtain ⟨g, hg⟩ : ∃ g, w.heap.size = g := ⟨_, rfl⟩
  have hle := h.le
  have hTl := hT.2
  go_enter Tryz.func96, Tryz.ntmps96
  go_wp2_with fail
  rw [hg] at b0
  generalize ((w.alloc (.cells #[.slice A n c, .slice B n d] 48)).alloc (.cells #[.slice none 0 0, .slice none 0 0] 48)).alloc (.cells #[.slice none 0 0, .slice none 0 0] 48) = W0 at *
  have h0 := h.below hB
  have T0 := hT.below hB
  have HB := hid hB
  have Hg := hid (show w.heap.size = g ∧ B0 ≤ g ∧ 0 < g from ⟨hg, by omega, by omega⟩)
  have Hi := hid hi0
  have Hr := hid hr0
  have jl := b0.2.2.lt
  clear h hT hB hg hle hTl hi0 hr0
  refine (rQ 0 _ (by decide) (by decide)).mono ?_
  rintro e w1 ⟨o1, O1, lo1, co1, o2, O2, lo2, co2, rfl, hq0, hb1⟩
  have hA := alo (W := w1) (o := (.cells #[.bool o1, .slice O1 lo1 co1, .bool o2, .slice O2 lo2 co2] 26))
  have j5 := Jq.made hq0
  have hg5 : g + 1 + 1 < w1.heap.size := Nat.lt_of_lt_of_le jl hb1.size
  have hz : Ri (w1.alloc (.cells #[.bool o1, .slice O1 lo1 co1, .bool o2, .slice O2 lo2 co2] 26)) o1 O1 lo1 co1 o2 O2 lo2 co2 kc (Kc.lst Q 0) := (hq0.below hA).ri (whole_ql (Le.zero _) (by omega)) (by omega)
  have P0 : Bn w g (.cells #[.slice A n c, .slice B n d] 48 (0, 0)) (g + 1) (g + 1 + 1) w1.heap.size (w1.heap.size + 1) B0 A n B n kc X Q none 0 0 none 0 0 (Kc.bs X Q 0) (Kc.bq Q 0) [] o1 O1 lo1 co1 o2 O2 lo2 co2 (Kc.lst Q 0) (w1.alloc (.cells #[.bool o1, .slice O1 lo1 co1, .bool o2, .slice O2 lo2 co2] 26)) :=
    ⟨(h0.below hb1).below hA, (Bk.step (W := W0) b0.1 hb1).step hA, (Bk.step (W := W0) b0.2.1 hb1).step hA, (Bk.step (W := W0) b0.2.2 hb1).step hA, j5.b, hz, Co.nil _ _, (T0.below hb1).below hA, bthen (bthen HB.out hb1 (Nat.le_refl _)) hA (Nat.le_refl _)⟩
  have HS := hid (show Sb w g (g + 1) (g + 1 + 1) w1.heap.size (w1.heap.size + 1) B0 from by
    obtain ⟨e1, e2, e3⟩ := Hg.out
    exact ⟨⟨by omega, by omega, by omega⟩, ⟨by omega, by omega, by omega, by omega⟩, ⟨by omega, by omega, by omega, by omega, by omega⟩, by omega, by omega⟩)
  clear hb1 hq0 h0 T0 HB j5 hA b0 jl hz
  go_upto_region 3 with fail
  generalize w1.alloc (.cells #[.bool o1, .slice O1 lo1 co1, .bool o2, .slice O2 lo2 co2] 26) = W1 at *
  generalize w1.heap.size = g5 at *
  go_wp2
  go_loopw [5] (fun iv wr => ∃ i V1 l1 k1 V2 l2 k2 cs p1 E1 z1 b1 p2 E2 z2 b2, i ≤ n ∧ iv = .int .i64 ((i : Nat) : Int) ∧ Bn w g (.cells #[.slice A n c, .slice B n d] 48 (0, 0)) (g + 1) (g + 1 + 1) g5 (g5 + 1) B0 A n B n kc X Q V1 l1 k1 V2 l2 k2 (Kc.bs X Q i) (Kc.bq Q i) cs p1 E1 z1 b1 p2 E2 z2 b2 (Kc.lst Q i) wr) (fun iv _ => n - (intOf iv).toNat)
  case atStart => exact ⟨0, none, 0, 0, none, 0, 0, [], _, _, _, _, _, _, _, _, Nat.zero_le _, rfl, P0⟩
  case round =>
    obtain ⟨i, V1, l1, k1, V2, l2, k2, cs, p1, E1, z1, b1, p2, E2, z2, b2, hi', rfl, P⟩ := hrel
    clear P0
    by_cases hi : i < n
    · obtain ⟨ad, hA, es⟩ := P.cv.es hi
      obtain ⟨bd, f1, F1, lf1, cf1, f2, F2, lf2, cf2, hBd, el⟩ := P.cv.el (i := i) (by omega)
      subst hA
      subst hBd
      have q0 := el.q0
      have q1 := el.q1
      have q2 := el.q2
      have q3 := el.q3
      obtain ⟨x0, x1, -, -⟩ := P.mc.c2
      have LQ := hid (el.r.q.ql (by omega))
      have HL := hid (show (Kc.bs X Q i).length ≤ 60 ∧ (Kc.bq Q i).length ≤ 60 by have h1 := Kc.bs_len X Q i; have h2 := Kc.bq_len X Q i; omega)
      go_wp2_with fail
      refine (rNormRat el.r (by omega)).mono ?_
      rintro e wv1 ⟨t1, T1, lt1, ct1, t2, T2, lt2, ct2, rfl, hq, hb1⟩
      have hA := alo (W := wv1) (o := (.cells #[.bool t1, .slice T1 lt1 ct1, .bool t2, .slice T2 lt2 ct2] 26))
      have P1 := P.below hb1
      have hlb := P1.jb.lt
      have D0 : Bs w g (.cells #[.slice (some ad) n c, .slice (some bd) n d] 48 (0, 0)) (g + 1) (g + 1 + 1) g5 (g5 + 1) B0 (some ad) n (some bd) n kc X Q c d V1 l1 k1 V2 l2 k2 (Kc.bs X Q i) (Kc.bq Q i) cs p1 E1 z1 b1 p2 E2 z2 b2 (Kc.lst Q i) ad i wv1.heap.size t1 T1 lt1 ct1 t2 T2 lt2 ct2 (Q i) (wv1.alloc (.cells #[.bool t1, .slice T1 lt1 ct1, .bool t2, .slice T2 lt2 ct2] 26)) :=
        ⟨P1.below hA, rfl, (es.below hb1).below hA, Jq.made hq, fun e => by have := (P1.co.r1.own.lt _ e).2; omega, fun e => by have := (P1.co.r2.own.lt _ e).2; omega, by omega⟩
      clear P P1 es el hq hb1 hA hlb q0 q1 q2 q3 x0 x1
      go_upto_region 7 with fail
      generalize wv1.alloc (.cells #[.bool t1, .slice T1 lt1 ct1, .bool t2, .slice T2 lt2 ct2] 26) = W2 at *
      generalize wv1.heap.size = gs at *
      obtain ⟨y0, y1, y2, y3, -, -, -, -⟩ := D0.s.b.c4
      obtain ⟨u0, u1, u2, u3, -, -, -, -⟩ := D0.b.jb.c4
      by_cases hc : Q i = Kc.lst Q i
      · have HE := hid hc
        have hz : (cmpQ (Q i) (Kc.lst Q i) == 0) = true := by rw [hc, cmpQ_self]; rfl
        have hd : decide (cmpQ (Q i) (Kc.lst Q i) = 0) = true := by rw [hc, cmpQ_self]; rfl
        have hz' : (cmpQ (Q i) (Kc.lst Q i) != 0) = false := by rw [hc, cmpQ_self]; rfl
        clear hc
        go_wp2_with fail
        refine (rCmpRat (D0.s.z.ri LQ.out (by omega)) D0.b.qb (by omega) (by omega) (by omega) (by omega) (by omega)).mono ?_
        rintro e w3 ⟨rfl, hb3⟩
        have HP := hid (D0.b.below hb3)
        clear D0 hb3 y0 y1 y2 y3 u0 u1 u2 u3
        go_wp2
        go_roundw
        case rel => exact ⟨i + 1, V1, l1, k1, V2, l2, k2, cs, p1, E1, z1, b1, p2, E2, z2, b2, by omega, by go_num, by rw [Kc.bs_skip HE.out, Kc.bq_skip HE.out, show Kc.lst Q (i + 1) = Kc.lst Q i from HE.out]; exact HP.out⟩
        case measure => simp [intOf]; omega
      · have HE := hid hc
        have hz : (cmpQ (Q i) (Kc.lst Q i) == 0) = false := beq_eq_false_iff_ne.2 (cmpQ_ne hc)
        have hz' : (cmpQ (Q i) (Kc.lst Q i) != 0) = true := bne_iff_ne.2 (cmpQ_ne hc)
        have hd : decide (cmpQ (Q i) (Kc.lst Q i) = 0) = false := decide_eq_false (cmpQ_ne hc)
        clear hc
        go_wp2_with fail
        refine (rCmpRat (D0.s.z.ri LQ.out (by omega)) D0.b.qb (by omega) (by omega) (by omega) (by omega) (by omega)).mono ?_
        rintro e w3 ⟨rfl, hb3⟩
        have D1 := D0.below hb3
        clear D0 hb3 y0 y1 y2 y3 u0 u1 u2 u3
        go_upto_region 8 with fail
        have Q0 := D1.below (dr0 (W := w3))
        clear hz hz' hd
        refine wp_region_late 10 (fun w' => w'.cell? ⟨g, 0, none⟩ = some (.slice (some ad) n c) ∧ w'.cell? (ad.add i) = some (.int .i64 (X i)) ∧ w'.cell? ⟨g + 1 + 1, 0, none⟩ = some (.slice V1 l1 k1) ∧ w'.cell? ⟨g + 1 + 1, 1, none⟩ = some (.slice V2 l2 k2)) (by kernel_rfl) (by with_reducible exact Bs.cells Q0) (fun hHeld => ?_)
        refine wpLate_take 0 [0, 10] (v := ?_) rfl (by kernel_rfl) (by kernel_rfl) (by kernel_rfl) (fun _ _ _ h => h) (by kernel_rfl) (by kernel_rfl) (Or.inl ⟨by rfl, ?_⟩) hHeld ?_
        rotate_left
        · intro w hSw
          (try dsimp only at hSw)
          go_simp
          (try with_reducible rfl)
        (try simp only [Act.put, List.setIfInBounds_toArray, List.set_cons_zero, List.set_cons_succ])
        refine wpLate_take 1 [1, 10] (v := ?_) rfl (by kernel_rfl) (by kernel_rfl) (by kernel_rfl) (fun _ _ _ h => h) (by kernel_rfl) (by kernel_rfl) (Or.inl ⟨by rfl, ?_⟩) hHeld ?_
        rotate_left
        · intro w hSw
          (try dsimp only at hSw)
          go_simp
          (try with_reducible rfl)
        (try simp only [Act.put, List.setIfInBounds_toArray, List.set_cons_zero, List.set_cons_succ])
        refine wpLate_take 2 [2, 10] (v := ?_) rfl (by kernel_rfl) (by kernel_rfl) (by kernel_rfl) (fun _ _ _ h => h) (by kernel_rfl) (by kernel_rfl) (Or.inl ⟨by rfl, ?_⟩) hHeld ?_
        rotate_left
        · intro w hSw
          (try dsimp only at hSw)
          go_simp
          (try with_reducible rfl)
        (try simp only [Act.put, List.setIfInBounds_toArray, List.set_cons_zero, List.set_cons_succ])
        refine wpLate_take 3 [3, 10] (v := ?_) rfl (by kernel_rfl) (by kernel_rfl) (by kernel_rfl) (fun _ _ _ h => h) (by kernel_rfl) (by kernel_rfl) (Or.inl ⟨by rfl, ?_⟩) hHeld ?_
        rotate_left
        · intro w hSw
          (try dsimp only at hSw)
          go_simp
          (try with_reducible rfl)
        (try simp only [Act.put, List.setIfInBounds_toArray, List.set_cons_zero, List.set_cons_succ])
        refine wpLate_take 4 [4, 10] (v := ?_) rfl (by kernel_rfl) (by kernel_rfl) (by kernel_rfl) (fun _ _ _ h => h) (by kernel_rfl) (by kernel_rfl) (Or.inl ⟨by rfl, ?_⟩) hHeld ?_
        rotate_left
        · intro w hSw
          (try dsimp only at hSw)
          go_simp
          (try with_reducible rfl)
        (try simp only [Act.put, List.setIfInBounds_toArray, List.set_cons_zero, List.set_cons_succ])
        refine wpLate_take 5 [5, 10] (v := ?_) rfl (by kernel_rfl) (by kernel_rfl) (by kernel_rfl) (fun _ _ _ h => h) (by kernel_rfl) (by kernel_rfl) (Or.inl ⟨by rfl, ?_⟩) hHeld ?_
        rotate_left
        · intro w hSw
          (try dsimp only at hSw)
          go_simp
          (try with_reducible rfl)
        (try simp only [Act.put, List.setIfInBounds_toArray, List.set_cons_zero, List.set_cons_succ])
        refine wpLate_take 6 [6, 10] (v := ?_) rfl (by kernel_rfl) (by kernel_rfl) (by kernel_rfl) (fun _ _ _ h => h) (by kernel_rfl) (by kernel_rfl) (Or.inl ⟨by rfl, ?_⟩) hHeld ?_
        rotate_left
        · intro w hSw
          (try dsimp only at hSw)
          go_simp
          (try with_reducible rfl)
        (try simp only [Act.put, List.setIfInBounds_toArray, List.set_cons_zero, List.set_cons_succ])
        refine wpLate_one 7 (by kernel_rfl) rfl (fun K hK => ?_)
        go_simp
        have hnews := cell_one_new w3 (.int .i64 (X i)) 3
        have Q1 := (D1.below (alo (o := .cells #[.int .i64 (X i)] 3))).below (dr0 (W := w3.alloc (.cells #[.int .i64 (X i)] 3)))
        clear hHeld
        refine hK.out _ _ (by with_reducible exact Bs.cells Q1) (fun hHeld => ?_)
        clear hK K
        (try simp only [Act.put, List.setIfInBounds_toArray, List.set_cons_zero, List.set_cons_succ])
        refine wpLate_one 8 (by kernel_rfl) rfl (fun K hK => ?_)
        rw [if_pos (by rfl)]
        refine wp_append_ow (.tmp 26) (.tmp 32) 45 rfl Tryz.underlying45 Hi.out hz0 hz1 hz2 rfl (by decide) zu_int (v := .slice V1 l1 k1) rfl Q1.b.co.r1 (ad := ⟨w3.heap.size, 0, none⟩) (c := 1) (news := [.int .i64 (X i)]) rfl rfl hnews (one_cell _ rfl) (noU_one _) (by decide) (by unfold maxLen; have := HL.out; omega) (by have := HL.out; omega) (by have := Q1.b.jb.lt; omega) ?_
        intro gn cap w5 hown hgrow hat hlt
        clear hHeld
        refine hK.out _ _ (by with_reducible exact Bs.mid1 Q1 HS.out hgrow) (fun hHeld => ?_)
        clear hK K
        (try simp only [Act.put, List.setIfInBounds_toArray, List.set_cons_zero, List.set_cons_succ])
        refine wpLate_take 9 [9, 10] (v := ?_) rfl (by kernel_rfl) (by kernel_rfl) (by kernel_rfl) (fun _ _ _ h => h) (by kernel_rfl) (by kernel_rfl) (Or.inl ⟨by rfl, ?_⟩) hHeld ?_
        rotate_left
        · intro w hSw
          (try dsimp only at hSw)
          go_simp
          (try with_reducible rfl)
        (try simp only [Act.put, List.setIfInBounds_toArray, List.set_cons_zero, List.set_cons_succ])
        obtain ⟨a0, a1, a2, a3⟩ := (Q1.b.jo.offrow hgrow (fun e => by have := (Q1.b.co.r1.own.lt _ e.symm).1; omega)).c2
        clear hHeld
        refine wpLate_last 10 rfl (by kernel_rfl) (by kernel_rfl) rfl (fun K hK => ?_)
        go_simp
        refine hK.out _ _ ?_
        clear hK K
        (try simp only [Act.put, List.setIfInBounds_toArray, List.set_cons_zero, List.set_cons_succ])
        have D2 := Q1.app1 HS.out hown hgrow hat
        clear Q0 Q1 D1 hown hgrow hat hlt hnews a0 a1 a2 a3
        generalize w5.setCell ⟨g + 1 + 1, 0, none⟩ (.slice (some ⟨gn, 0, none⟩) ((Kc.bs X Q i).length + 1) cap) = W5 at *
        obtain ⟨U1, lu1, cu1, D2⟩ : ∃ U1 lu1 cu1, Bs w g (.cells #[.slice (some ad) n c, .slice (some bd) n d] 48 (0, 0)) (g + 1) (g + 1 + 1) g5 (g5 + 1) B0 (some ad) n (some bd) n kc X Q c d U1 lu1 cu1 V2 l2 k2 (Kc.bs X Q i ++ [X i]) (Kc.bq Q i) cs p1 E1 z1 b1 p2 E2 z2 b2 (Kc.lst Q i) ad i gs t1 T1 lt1 ct1 t2 T2 lt2 ct2 (Q i) W5 := ⟨_, _, _, D2⟩
        have D3 := D2.below (alo (o := .cells #[.bool t1, .slice T1 lt1 ct1, .bool t2, .slice T2 lt2 ct2] 26))
        have hnews := World.news_of_block (heap_alloc_new W5 (.cells #[.bool t1, .slice T1 lt1 ct1, .bool t2, .slice T2 lt2 ct2] 26))
        obtain ⟨y0, y1, y2, y3, -, -, -, -⟩ := D2.s.b.c4
        obtain ⟨v0, v1, -, -⟩ := D2.b.jo.c2
        clear D2
        go_wp2_with (at_builtin; (refine wpList_append_ow rfl (.tmp 36) (.tmp 38) 46 rfl Tryz.underlying46 Hr.out hy0 hy1 hy2 rfl (by decide) zu_rat (v := .slice V2 l2 k2) rfl D3.b.co.r2 (ad := ⟨W5.heap.size, 0, none⟩) (c := 1) (news := [.bool t1, .slice T1 lt1 ct1, .bool t2, .slice T2 lt2 ct2]) rfl rfl hnews (four_one _ _ _ _ _ _ _ _) (noU_four _ _ _ _ _ _ _ _) (by decide) (by unfold maxLen; have := HL.out; omega) (by have := HL.out; omega) (by have := D3.b.jb.lt; omega) ?_))
        intro gm cap2 w6 hown2 hgrow2 hat2 hlt2
        have B6 := D3.b.app2 HS.out hown2 D3.s.z hgrow2
        have hf := fun k (e : Value.ownBlock (.slice V2 l2 k2) = some k) => (D3.b.co.r2.own.lt k e).1
        have jo := D3.b.jo.offrow hgrow2 (fun e => by have := hf _ e.symm; omega)
        have S6 := (D3.s.offrow D3.b.co.r2.all hgrow2 (fun e => D3.n2 e.symm)).offb jo (noInt_two _ _ _ _ _ _) (gb_set (g := g + 1 + 1) (World.grownBy.refl w6 _) 1 (.slice (some ⟨gm, 0, none⟩) ((Kc.bq Q i).length + 1) cap2)) (by have := D3.ng; omega)
        have hB6 := hid B6
        have hS6 := hid S6
        obtain ⟨a0, a1, a2, a3⟩ := jo.c2
        have hjl := jo.lt
        clear B6 S6 D3 hown2 hgrow2 hat2 hlt2 hf jo hnews y0 y1 y2 y3 v0 v1
        go_upto_region 10 with fail
        have B6 := hB6.out
        have S6 := hS6.out
        clear a0 a1 a2 a3 hjl hB6 hS6
        generalize w6.setCell ⟨g + 1 + 1, 1, none⟩ (.slice (some ⟨gm, 0, none⟩) ((Kc.bq Q i).length + 1) cap2) = W6 at *
        obtain ⟨y0, y1, y2, y3, -, -, -, -⟩ := S6.b.c4
        obtain ⟨u0, u1, u2, u3, u4, u5, u6, u7⟩ := B6.jb.c4
        have hlj := B6.jb.lt
        have HP := hid (B6.putb HS.out (S6.z.ri LQ.out (by omega)))
        clear B6 S6
        go_wp2
        go_roundw
        case rel => exact ⟨i + 1, _, _, _, _, _, _, _, t1, T1, lt1, ct1, t2, T2, lt2, ct2, by omega, by go_num, by rw [Kc.bs_take HE.out, Kc.bq_take HE.out]; exact HP.out⟩
        case measure => simp [intOf]; omega
    · have hin : n = i := by omega
      subst hin
      obtain ⟨x0, x1, -, -⟩ := P.mc.c2
      obtain ⟨v0, v1, -, -⟩ := P.jo.c2
      obtain ⟨i0', i1', i2', i3'⟩ := P.jr.c2
      have hl7 := P.jr.lt
      have hG := gb2 wr (g + 1) 0 1 (.slice V1 l1 k1) (.slice V2 l2 k2)
      have HC := hid (P.co.offbox P.jr (noInt_two _ _ _ _ _ _) hG (by omega))
      have h11 := hid (P.bl.grown hG P.bl.size (fun k hk => by injection hk with hk; have := HS.out.r.1; omega))
      have Hn := hid (show w.heap.size ≤ g5 + 1 by have h1 := HS.out.r.2.2; omega)
      clear P
      go_wp2
      exact bodyPost_ret (v := .agg #[.slice V1 l1 k1, .slice V2 l2 k2]) (by simp [results, Tryz.results96, go_sem, i0', i1']) rfl ⟨_, _, _, _, _, _, _, _, rfl, HC.out, Hn.out, h11.out⟩

end Go.Proofs.YtffipjofefemiaaGreatDoor

namespace Go.Proofs.YtffipjofefemiaaGreatDoor
open Go.RowKit Kb

/-- The first i numbers are moved. -/
def shl (xs : List Int) (b : Int) (i : Nat) : List Int := (xs.take i).map (· + b) ++ xs.drop i
theorem shl_zero (xs : List Int) (b : Int) : shl xs b 0 = xs := by simp [shl]
theorem shl_all (xs : List Int) (b : Int) : shl xs b xs.length = xs.map (· + b) := by simp [shl]
theorem shl_len (xs : List Int) (b : Int) (i : Nat) : (shl xs b i).length = xs.length := by
  simp only [shl, List.length_append, List.length_map, List.length_take, List.length_drop]; omega
theorem shl_at {xs : List Int} {b : Int} {i : Nat} (hi : i < xs.length) : ix (shl xs b i) i = ix xs i := by
  unfold ix shl
  rw [List.getD_eq_getElem?_getD, List.getD_eq_getElem?_getD, List.getElem?_append_right (by simp [Nat.min_eq_left (Nat.le_of_lt hi)])]
  simp [Nat.min_eq_left (Nat.le_of_lt hi)]
theorem shl_set {xs : List Int} {b : Int} {i : Nat} (hi : i < xs.length) : (shl xs b i).set i (ix xs i + b) = shl xs b (i + 1) := by
  apply List.ext_getElem?
  intro j
  simp only [shl, ix]
  rw [List.getElem?_set]
  have hl : ((xs.take i).map (· + b)).length = i := by simp [Nat.min_eq_left (Nat.le_of_lt hi)]
  have hl' : ((xs.take (i + 1)).map (· + b)).length = i + 1 := by simp [Nat.min_eq_left (show i + 1 ≤ xs.length by omega)]
  by_cases hj : i = j
  · subst hj
    rw [if_pos rfl, if_pos (by rw [List.length_append, hl, List.length_drop]; omega), List.getElem?_append_left (by rw [hl']; omega)]
    simp [List.getElem?_eq_getElem hi]
  · rw [if_neg hj]
    rcases Nat.lt_or_ge j i with h1 | h1
    · rw [List.getElem?_append_left (by rw [hl]; exact h1), List.getElem?_append_left (by rw [hl']; omega)]
      simp [h1, show j < i + 1 by omega]
    · rw [List.getElem?_append_right (by rw [hl]; omega), List.getElem?_append_right (by rw [hl']; omega), hl, hl', List.getElem?_drop, List.getElem?_drop]
      congr 1; omega
theorem ix_mem {xs : List Int} {i : Nat} (hi : i < xs.length) : ix xs i ∈ xs := by
  unfold ix; rw [List.getD_eq_getElem?_getD, List.getElem?_eq_getElem hi]; exact List.getElem_mem hi
theorem mem_ix {xs : List Int} {x : Int} (h : x ∈ xs) : ∃ i, i < xs.length ∧ ix xs i = x := by
  obtain ⟨i, hi, e⟩ := List.getElem_of_mem h
  exact ⟨i, hi, by unfold ix; rw [List.getD_eq_getElem?_getD, List.getElem?_eq_getElem hi]; exact e⟩
/-- The number may be a start when it has been moved. -/
def Inr (b x : Int) : Prop := -10000000 ≤ x + b ∧ x + b ≤ 10000000
theorem Ow.len {w : World} {N : Nat} {e : TypeId} {size n l c : Nat} {A : Option Addr} {xs : List Value} (h : Ow w N e size (.slice A l c) n xs) : l = n := by
  rcases h.own.2 with ⟨e0, e1⟩ | ⟨g, cap, cur, e0, _⟩
  · injection e0 with _ e2 _; omega
  · injection e0
/-- A cell of a row of integers is written. -/
theorem Ow.put {w : World} {N g n cap : Nat} {ys : List Int} (h : Ow w N 3 1 (.slice (some ⟨g, 0, none⟩) n cap) ys.length (ys.map (.int .i64))) (i : Nat) (z : Int) : Ow (w.setCell ⟨g, i, none⟩ (.int .i64 z)) N 3 1 (.slice (some ⟨g, 0, none⟩) n cap) (ys.set i z).length ((ys.set i z).map (.int .i64)) := by
  obtain rfl := h.len
  refine ⟨by rw [List.length_set, List.map_set]; exact (h.own.stored i _).1, ?_⟩
  intro g' cur T fz e hc u hu
  have e' : g = g' := by simpa [Value.ownBlock] using e
  subst e'
  rcases h.own.2 with ⟨e0, _⟩ | ⟨g0, cap0, cur0, e0, _, hb, _⟩
  · cases e0
  · injection e0 with e0 _ _
    injection e0 with e0
    injection e0 with e1 _ _
    subst e1
    rw [heap_setCell_same w g i cur0 _ _ hb] at hc
    injection hc with hc
    injection hc with h1 _ _
    subst h1
    rcases Array.mem_or_eq_of_mem_setIfInBounds hu with h2 | h2
    · exact h.all g cur0 _ _ rfl hb u h2
    · rw [h2]; exact noU_i64 _

/-- What stays where a curve is moved: the curve in its box. -/
structure Mv (w : World) (g gm N : Nat) (oc : Obj) (U : Option Addr) (lu cu : Nat) (V : Option Addr) (lv cv : Nat) (ys : List Int) (qs : List Rat) (cs : List Value) (wx : World) : Prop where
  jc : Bk wx g oc
  jr : Bk wx (g + 1) (.cells #[.slice none 0 0, .slice none 0 0] 48 (0, 0))
  jm : Bk wx gm (.cells #[.slice U lu cu, .slice V lv cv] 48 (0, 0))
  co : Co wx N (.slice U lu cu) (.slice V lv cv) ys qs cs
  nm : Value.ownBlock (.slice U lu cu) ≠ some gm
  tb : Tb wx
  bl : Below w.heap.size w wx
  hN : g + 1 < N ∧ 0 < N ∧ w.heap.size ≤ N ∧ w.heap.size ≤ g
section
variable {w : World} {g gm N : Nat} {oc : Obj} {U : Option Addr} {lu cu : Nat} {V : Option Addr} {lv cv : Nat} {ys : List Int} {qs : List Rat} {cs : List Value} {wx wy : World} {g1 i : Nat} {z : Int}
theorem Mv.below (h : Mv w g gm N oc U lu cu V lv cv ys qs cs wx) (hb : Below wx.heap.size wx wy) : Mv w g gm N oc U lu cu V lv cv ys qs cs wy := ⟨h.jc.step hb, h.jr.step hb, h.jm.step hb, h.co.below hb, h.nm, h.tb.below hb, bthen h.bl hb (Nat.le_refl _), h.hN⟩
theorem Mv.put (h : Mv w g gm N oc (some ⟨g1, 0, none⟩) lu cu V lv cv ys qs cs wx) (i : Nat) (z : Int) : Mv w g gm N oc (some ⟨g1, 0, none⟩) lu cu V lv cv (ys.set i z) qs cs (wx.setCell ⟨g1, i, none⟩ (.int .i64 z)) := by
  obtain ⟨e1, e2, e3, e4⟩ := h.hN
  have hl := h.co.r1.own.lt g1 rfl
  have hg : wx.grownBy (wx.setCell ⟨g1, i, none⟩ (.int .i64 z)) (some g1) := gb_set (World.grownBy.refl _ _) _ _
  have hu : Nu wx (some g1) := h.co.r1.all
  exact ⟨h.jc.offrow hg (by simp; omega), h.jr.offrow hg (by simp; omega), h.jm.offrow hg (fun e => h.nm e.symm), ⟨h.co.r1.put i z, h.co.r2.kept hg (h.co.r2.apart h.co.r1 (by decide)), h.co.q.offrow hu hg⟩, h.nm, h.tb.offrow hg (fun k e => by injection e with e; omega), h.bl.grown hg h.bl.size (fun k e => by injection e with e; omega), h.hN⟩
theorem Mv.form (h : Mv w g gm N oc U lu cu V lv cv ys qs cs wx) (hi : i < ys.length) : ∃ g1, U = some ⟨g1, 0, none⟩ := by
  rcases h.co.r1.own.2 with ⟨_, h0⟩ | ⟨g0, cap0, cur0, e0, _⟩
  · omega
  · injection e0 with e0 _ _
    exact ⟨g0, e0⟩
theorem Mv.cell (h : Mv w g gm N oc U lu cu V lv cv ys qs cs wx) (hi : i < ys.length) : ∃ ad, U = some ad ∧ wx.cell? (ad.add i) = some (.int .i64 (ix ys i)) ∧ wx.frozen? (ad.add i) = false := by
  obtain ⟨g1, rfl⟩ := h.form hi
  obtain ⟨ad, e, _, hc⟩ := (show Ow wx N 3 1 (.slice (some ⟨g1, 0, none⟩) lu cu) ys.length (ys.map (.int .i64)) from h.co.r1).si i hi
  injection e with e
  subst e
  refine ⟨_, rfl, hc, ?_⟩
  rw [row_add]
  have := h.co.r1.len
  subst this
  exact h.co.r1.own.frozenAt i
theorem Mv.puta {ad : Addr} (h : Mv w g gm N oc (some ad) lu cu V lv cv ys qs cs wx) (hi : i < ys.length) (z : Int) : Mv w g gm N oc (some ad) lu cu V lv cv (ys.set i z) qs cs (wx.setCell (ad.add i) (.int .i64 z)) := by
  obtain ⟨g1, e⟩ := h.form hi
  injection e with e
  subst e
  rw [row_add]
  exact h.put i z
end
/-- What Shift returns. -/
def Sho (b : Int) (xs : List Int) (qs : List Rat) (V1 : Option Addr) (l1 k1 : Nat) (V2 : Option Addr) (l2 k2 : Nat) (E : Int) (w : World) : Prop :=
  ((∀ x, x ∈ xs → Inr b x) ∧ E = 0 ∧ ∃ N cs, Co w N (.slice V1 l1 k1) (.slice V2 l2 k2) (xs.map (· + b)) qs cs) ∨ ((¬ ∀ x, x ∈ xs → Inr b x) ∧ E = 2 ∧ V1 = none ∧ l1 = 0 ∧ k1 = 0 ∧ V2 = none ∧ l2 = 0 ∧ k2 = 0)

set_option maxRecDepth 100000 in
set_option maxHeartbeats 80000000 in
theorem Shift_q {w : World} {A : Option Addr} {n c : Nat} {B : Option Addr} {d B0 kc : Nat} {X : Nat → Int} {Q : Nat → Rat} {b : Int} (h : Cv w B0 A n B n kc X Q) (ok : Okc n X Q) (hk0 : 0 < kc) (hk : kc ≤ 400) (hT : Tb w) :
    Calls Tryz.prog 46 #[.agg #[.slice A n c, .slice B n d], .int .i64 b] w fun e w' => ∃ V1 l1 k1 V2 l2 k2 E, e = .returned (.tuple #[.agg #[.slice V1 l1 k1, .slice V2 l2 k2], .int .i64 E]) ∧ Sho b (Kc.bs X Q n) (Kc.bq Q n) V1 l1 k1 V2 l2 k2 E w' ∧ Below w.heap.size w w' := by
  have b0 := two_new w (.cells #[.slice A n c, .slice B n d] 48) (.cells #[.slice none 0 0, .slice none 0 0] 48)
  have hB := below_two w (.cells #[.slice A n c, .slice B n d] 48) (.cells #[.slice none 0 0, .slice none 0 0] 48)
  obtain ⟨g, hg⟩ : ∃ g, w.heap.size = g := ⟨_, rfl⟩
  have hTl := hT.2
  go_enter Tryz.func46, Tryz.ntmps46
  go_wp2_with fail
  rw [hg] at b0
  generalize (w.alloc (.cells #[.slice A n c, .slice B n d] 48)).alloc (.cells #[.slice none 0 0, .slice none 0 0] 48) = W0 at *
  have h0 := h.below hB
  have T0 := hT.below hB
  have jc0 : Bk W0 g _ := b0.1
  have jr0 : Bk W0 (g + 1) _ := b0.2
  have HB := hid hB
  have Hg := hid (show w.heap.size = g ∧ 0 < g from ⟨hg, by omega⟩)
  have OK := hid ok
  have hfew := ok.few
  clear h hT hB hg b0 ok hTl
  refine (CheckCurve_ok h0 hk0 OK.out).mono ?_
  rintro e w1 ⟨rfl, hb1'⟩
  have h1 := h0.below hb1'
  have T1 := T0.below hb1'
  have jc1 := jc0.step hb1'
  have jr1 := jr0.step hb1'
  have HB1 := hid (bthen HB.out hb1' (Nat.le_refl _))
  clear h0 T0 jc0 jr0 HB hb1'
  obtain ⟨x0, x1, -, -⟩ := jc1.c2
  go_wp2_with fail
  refine (bends_q h1 (Nat.le_refl _) (by omega) hk0 hk T1).mono ?_
  rintro e w2 ⟨V1, l1, k1, V2, l2, k2, cs, N, rfl, hc, hN, hb2'⟩
  obtain rfl := hc.r1.len
  have hA := alo (W := w2) (o := (.cells #[.slice V1 (Kc.bs X Q n).length k1, .slice V2 l2 k2] 48))
  have hl1 := jr1.lt
  have P0 : Mv w g w2.heap.size N (.cells #[.slice A n c, .slice B n d] 48 (0, 0)) V1 (Kc.bs X Q n).length k1 V2 l2 k2 (shl (Kc.bs X Q n) b 0) (Kc.bq Q n) cs (w2.alloc (.cells #[.slice V1 (Kc.bs X Q n).length k1, .slice V2 l2 k2] 48)) := by
    rw [shl_zero]
    exact ⟨(jc1.step hb2').step hA, (jr1.step hb2').step hA, Bk.of_alloc _ _ rfl, hc.below hA, fun e => by have := (hc.r1.own.lt _ e).2; omega, (T1.below hb2').below hA, bthen (bthen HB1.out hb2' (Nat.le_refl _)) hA (Nat.le_refl _), by have := Hg.out; omega⟩
  have HF := hid (show ∀ x, x ∈ Kc.bs X Q n → -10000000 ≤ x ∧ x ≤ 10000000 from fun x hx => by
    obtain ⟨j, hj, e⟩ := Kc.bs_mem hx
    rw [← e]; exact OK.out.far j hj)
  have HL := hid (show (Kc.bs X Q n).length ≤ 60 from Nat.le_trans (Kc.bs_len X Q n) (by omega))
  clear h1 T1 jc1 jr1 HB1 hc hb2' hA hN hl1 x0 x1
  go_upto_region 5 with fail
  generalize w2.alloc (.cells #[.slice V1 (Kc.bs X Q n).length k1, .slice V2 l2 k2] 48) = W2 at *
  generalize w2.heap.size = gm at *
  obtain ⟨xs, hxs⟩ : ∃ xs, Kc.bs X Q n = xs := ⟨_, rfl⟩
  rw [hxs] at P0 HF HL
  have Hxs := hid hxs
  clear hxs
  obtain ⟨y0, y1, -, -⟩ := P0.jm.c2
  go_wp2
  go_loopw [24] (fun iv wr => ∃ i, i ≤ xs.length ∧ iv = .int .i64 ((i : Nat) : Int) ∧ Hid (∀ j, j < i → Inr b (ix xs j)) ∧ Mv w g gm N (.cells #[.slice A n c, .slice B n d] 48 (0, 0)) V1 xs.length k1 V2 l2 k2 (shl xs b i) (Kc.bq Q n) cs wr) (fun iv _ => xs.length - (intOf iv).toNat)
  case atStart => exact ⟨0, Nat.zero_le _, rfl, hid (fun j hj => absurd hj (Nat.not_lt_zero _)), P0⟩
  case round =>
    obtain ⟨i, hi', rfl, HI, P⟩ := hrel
    clear P0 y0 y1
    by_cases hi : i < xs.length
    · obtain ⟨ad, hA, hc, hf⟩ := P.cell (i := i) (by rw [shl_len]; exact hi)
      rw [shl_at hi] at hc
      have hx := HF.out _ (ix_mem hi)
      have HL' := HL.out
      subst hA
      obtain ⟨x, hxe⟩ : ∃ x, ix xs i = x := ⟨_, rfl⟩
      have Hxe := hid hxe
      rw [hxe] at hc hx
      clear hxe
      obtain ⟨y0, y1, -, -⟩ := P.jm.c2
      have e1 : IntKind.i64.wrap (-10000000 - x) = -10000000 - x := by rw [IntKind.wrap_i64]; omega
      have e2 : IntKind.i64.wrap (10000000 - x) = 10000000 - x := by rw [IntKind.wrap_i64]; omega
      by_cases hin : Inr b (ix xs i)
      · have hi1 := hin.1
        have hi2 := hin.2
        rw [Hxe.out] at hi1 hi2
        have hd1 : decide (b < -10000000 - x) = false := decide_eq_false (by omega)
        have hd2 : decide (10000000 - x < b) = false := decide_eq_false (by omega)
        have e3 : IntKind.i64.wrap (x + b) = x + b := by rw [IntKind.wrap_i64]; omega
        have HJ := hid (show ∀ j, j < i + 1 → Inr b (ix xs j) from fun j hj => by
          rcases Nat.lt_or_ge j i with h1 | h1
          · exact HI.out j h1
          · rw [show j = i by omega]; exact hin)
        have HP := hid (P.puta (i := i) (by rw [shl_len]; exact hi) (x + b))
        have Hs := hid (show (shl xs b i).set i (x + b) = shl xs b (i + 1) by rw [← Hxe.out]; exact shl_set hi)
        clear hin P hi1 hi2
        go_wp2
        go_roundw
        case rel => exact ⟨i + 1, hi, by go_num, HJ, by rw [← Hs.out]; exact HP.out⟩
        case measure => simp [intOf]; omega
      · have Hn := hid (show ¬ ∀ x, x ∈ xs → Inr b x from fun hh => hin (hh _ (ix_mem hi)))
        obtain ⟨i0', i1', i2', i3'⟩ := P.jr.c2
        have hl7 := P.jr.lt
        have hG := gb2 wr (g + 1) 0 1 (.slice none 0 0) (.slice none 0 0)
        have h11 := hid (P.bl.grown hG P.bl.size (fun k hk => by injection hk with hk; have := Hg.out; omega))
        by_cases hd : b < -10000000 - x
        · have hd1 : decide (b < -10000000 - x) = true := decide_eq_true hd
          clear hin hd P
          go_wp2
          exact bodyPost_ret (v := .tuple #[.agg #[.slice none 0 0, .slice none 0 0], .int .i64 2]) (by simp [results, Tryz.results46, go_sem, i0', i1']) rfl ⟨_, _, _, _, _, _, _, rfl, by rw [Hxs.out]; exact .inr ⟨Hn.out, rfl, rfl, rfl, rfl, rfl, rfl, rfl⟩, h11.out⟩
        · have hd1 : decide (b < -10000000 - x) = false := decide_eq_false hd
          have hd2 : decide (10000000 - x < b) = true := decide_eq_true (by
            have h1 : ¬ (-10000000 ≤ ix xs i + b ∧ ix xs i + b ≤ 10000000) := hin
            rw [Hxe.out] at h1; omega)
          clear hin hd P
          go_wp2
          exact bodyPost_ret (v := .tuple #[.agg #[.slice none 0 0, .slice none 0 0], .int .i64 2]) (by simp [results, Tryz.results46, go_sem, i0', i1']) rfl ⟨_, _, _, _, _, _, _, rfl, by rw [Hxs.out]; exact .inr ⟨Hn.out, rfl, rfl, rfl, rfl, rfl, rfl, rfl⟩, h11.out⟩
    · have hin : i = xs.length := by omega
      subst hin
      rw [shl_all] at P
      obtain ⟨y0, y1, -, -⟩ := P.jm.c2
      obtain ⟨i0', i1', i2', i3'⟩ := P.jr.c2
      have hl7 := P.jr.lt
      have hG := gb2 wr (g + 1) 0 1 (.slice V1 xs.length k1) (.slice V2 l2 k2)
      have HC := hid (P.co.offbox P.jr (noInt_two _ _ _ _ _ _) hG (by have := P.hN; omega))
      have h11 := hid (P.bl.grown hG P.bl.size (fun k hk => by injection hk with hk; have := Hg.out; omega))
      have Hall := hid (show ∀ x, x ∈ xs → Inr b x from fun x hx => by obtain ⟨j, hj, e⟩ := mem_ix hx; rw [← e]; exact HI.out j hj)
      clear P
      go_wp2
      exact bodyPost_ret (v := .tuple #[.agg #[.slice V1 xs.length k1, .slice V2 l2 k2], .int .i64 0]) (by simp [results, Tryz.results46, go_sem, i0', i1']) rfl ⟨_, _, _, _, _, _, _, rfl, by rw [Hxs.out]; exact .inl ⟨Hall.out, rfl, _, _, HC.out⟩, h11.out⟩

end Go.Proofs.YtffipjofefemiaaGreatDoor

namespace Go.Proofs.YtffipjofefemiaaGreatDoor
open Go.RowKit Kb

set_option maxRecDepth 100000 in
set_option maxHeartbeats 80000000 in
theorem rShift {w : World} {A : Option Addr} {n c : Nat} {B : Option Addr} {d B0 kc : Nat} {X : Nat → Int} {Q : Nat → Rat} {b : Int} (h : Cv w B0 A n B n kc X Q) (ok : Okc n X Q) (hk0 : 2 ≤ kc) (hk : kc ≤ 190) (hT : Tb w) :
    Calls Tryz.prog 48 #[.agg #[.slice A n c, .slice B n d], .int .i64 b] w fun e w' => ∃ V1 l1 k1 V2 l2 k2 E, e = .returned (.tuple #[.agg #[.slice V1 l1 k1, .slice V2 l2 k2], .int .i64 E]) ∧ Sho b (Kc.bs X Q n) (Kc.bq Q n) V1 l1 k1 V2 l2 k2 E w' ∧ Below w.heap.size w w' := by
  have b0 := two_new w (.cells #[.slice A n c, .slice B n d] 48) (.cells #[.slice none 0 0, .slice none 0 0] 48)
  have hB := below_two w (.cells #[.slice A n c, .slice B n d] 48) (.cells #[.slice none 0 0, .slice none 0 0] 48)
  obtain ⟨g, hg⟩ : ∃ g, w.heap.size = g := ⟨_, rfl⟩
  have hTl := hT.2
  go_enter Tryz.func48, Tryz.ntmps48
  go_wp2_with fail
  rw [hg] at b0
  generalize (w.alloc (.cells #[.slice A n c, .slice B n d] 48)).alloc (.cells #[.slice none 0 0, .slice none 0 0] 48) = W0 at *
  have h0 := h.below hB
  have T0 := hT.below hB
  have jc0 : Bk W0 g _ := b0.1
  have jr0 : Bk W0 (g + 1) _ := b0.2
  have HB := hid hB
  have Hg := hid (show w.heap.size = g ∧ 0 < g from ⟨hg, by omega⟩)
  have OK := hid ok
  have hfew := ok.few
  clear h hT hB hg b0 ok hTl
  refine (rNormal h0 (by omega) hk0 hk T0).mono ?_
  rintro e w2 ⟨V1, l1, k1, V2, l2, k2, cs, N, rfl, hc, hN, hb2'⟩
  obtain rfl := hc.r1.len
  have hA := alo (W := w2) (o := (.cells #[.slice V1 (Kc.bs X Q n).length k1, .slice V2 l2 k2] 48))
  have hl1 := jr0.lt
  have P0 : Mv w g w2.heap.size N (.cells #[.slice A n c, .slice B n d] 48 (0, 0)) V1 (Kc.bs X Q n).length k1 V2 l2 k2 (Kc.bs X Q n) (Kc.bq Q n) cs (w2.alloc (.cells #[.slice V1 (Kc.bs X Q n).length k1, .slice V2 l2 k2] 48)) :=
    ⟨(jc0.step hb2').step hA, (jr0.step hb2').step hA, Bk.of_alloc _ _ rfl, hc.below hA, fun e => by have := (hc.r1.own.lt _ e).2; omega, (T0.below hb2').below hA, bthen (bthen HB.out hb2' (Nat.le_refl _)) hA (Nat.le_refl _), by have := Hg.out; omega⟩
  have HF := hid (show ∀ x, x ∈ Kc.bs X Q n → -10000000 ≤ x ∧ x ≤ 10000000 from fun x hx => by
    obtain ⟨j, hj, e⟩ := Kc.bs_mem hx
    rw [← e]; exact OK.out.far j hj)
  have HL := hid (show (Kc.bs X Q n).length ≤ 60 from Nat.le_trans (Kc.bs_len X Q n) (by omega))
  clear h0 T0 jc0 jr0 HB hc hb2' hA hN hl1
  go_upto_region 2 with fail
  generalize w2.alloc (.cells #[.slice V1 (Kc.bs X Q n).length k1, .slice V2 l2 k2] 48) = W2 at *
  generalize w2.heap.size = gm at *
  obtain ⟨xs, hxs⟩ : ∃ xs, Kc.bs X Q n = xs := ⟨_, rfl⟩
  rw [hxs] at P0 HF HL
  have Hxs := hid hxs
  clear hxs
  go_wp2
  go_loopw [7] (fun iv wr => ∃ i, i ≤ xs.length ∧ iv = .int .i64 ((i : Nat) : Int) ∧ Hid (∀ j, j < i → Inr b (ix xs j)) ∧ Mv w g gm N (.cells #[.slice A n c, .slice B n d] 48 (0, 0)) V1 xs.length k1 V2 l2 k2 xs (Kc.bq Q n) cs wr) (fun iv _ => xs.length - (intOf iv).toNat)
  case atStart => exact ⟨0, Nat.zero_le _, rfl, hid (fun j hj => absurd hj (Nat.not_lt_zero _)), P0⟩
  case round =>
    obtain ⟨i, hi', rfl, HI, P⟩ := hrel
    clear P0
    by_cases hi : i < xs.length
    · obtain ⟨ad, hA, hc, hf⟩ := P.cell hi
      have hx := HF.out _ (ix_mem hi)
      have HL' := HL.out
      subst hA
      obtain ⟨x, hxe⟩ : ∃ x, ix xs i = x := ⟨_, rfl⟩
      have Hxe := hid hxe
      rw [hxe] at hc hx
      clear hxe
      obtain ⟨y0, y1, -, -⟩ := P.jm.c2
      by_cases hin : Inr b (ix xs i)
      · have hi1 := hin.1
        have hi2 := hin.2
        rw [Hxe.out] at hi1 hi2
        have hd1 : decide (b < -20000000) = false := decide_eq_false (by omega)
        have hd2 : decide (20000000 < b) = false := decide_eq_false (by omega)
        have e3 : IntKind.i64.wrap (x + b) = x + b := by rw [IntKind.wrap_i64]; omega
        have hd3 : decide (x + b < -10000000) = false := decide_eq_false (by omega)
        have hd4 : decide (10000000 < x + b) = false := decide_eq_false (by omega)
        have HJ := hid (show ∀ j, j < i + 1 → Inr b (ix xs j) from fun j hj => by
          rcases Nat.lt_or_ge j i with h1 | h1
          · exact HI.out j h1
          · rw [show j = i by omega]; exact hin)
        have HP := hid P
        clear hin P hi1 hi2
        go_wp2
        go_roundw
        case rel => exact ⟨i + 1, hi, by go_num, HJ, HP.out⟩
        case measure => simp [intOf]; omega
      · have Hn := hid (show ¬ ∀ x, x ∈ xs → Inr b x from fun hh => hin (hh _ (ix_mem hi)))
        have hin' : ¬ (-10000000 ≤ ix xs i + b ∧ ix xs i + b ≤ 10000000) := hin
        rw [Hxe.out] at hin'
        obtain ⟨i0', i1', i2', i3'⟩ := P.jr.c2
        have hl7 := P.jr.lt
        have hG := gb2 wr (g + 1) 0 1 (.slice none 0 0) (.slice none 0 0)
        have h11 := hid (P.bl.grown hG P.bl.size (fun k hk => by injection hk with hk; have := Hg.out; omega))
        clear hin P
        by_cases c1 : b < -20000000
        · have hd1 : decide (b < -20000000) = true := decide_eq_true c1
          clear c1 hin'
          go_wp2
          exact bodyPost_ret (v := .tuple #[.agg #[.slice none 0 0, .slice none 0 0], .int .i64 2]) (by simp [results, Tryz.results48, go_sem, i0', i1']) rfl ⟨_, _, _, _, _, _, _, rfl, by rw [Hxs.out]; exact .inr ⟨Hn.out, rfl, rfl, rfl, rfl, rfl, rfl, rfl⟩, h11.out⟩
        · have hd1 : decide (b < -20000000) = false := decide_eq_false c1
          by_cases c2 : 20000000 < b
          · have hd2 : decide (20000000 < b) = true := decide_eq_true c2
            clear c1 c2 hin'
            go_wp2
            exact bodyPost_ret (v := .tuple #[.agg #[.slice none 0 0, .slice none 0 0], .int .i64 2]) (by simp [results, Tryz.results48, go_sem, i0', i1']) rfl ⟨_, _, _, _, _, _, _, rfl, by rw [Hxs.out]; exact .inr ⟨Hn.out, rfl, rfl, rfl, rfl, rfl, rfl, rfl⟩, h11.out⟩
          · have hd2 : decide (20000000 < b) = false := decide_eq_false c2
            have e3 : IntKind.i64.wrap (x + b) = x + b := by rw [IntKind.wrap_i64]; omega
            by_cases c3 : x + b < -10000000
            · have hd3 : decide (x + b < -10000000) = true := decide_eq_true c3
              clear c1 c2 c3 hin'
              go_wp2
              exact bodyPost_ret (v := .tuple #[.agg #[.slice none 0 0, .slice none 0 0], .int .i64 2]) (by simp [results, Tryz.results48, go_sem, i0', i1']) rfl ⟨_, _, _, _, _, _, _, rfl, by rw [Hxs.out]; exact .inr ⟨Hn.out, rfl, rfl, rfl, rfl, rfl, rfl, rfl⟩, h11.out⟩
            · have hd3 : decide (x + b < -10000000) = false := decide_eq_false c3
              have hd4 : decide (10000000 < x + b) = true := decide_eq_true (by omega)
              clear c1 c2 c3 hin'
              go_wp2
              exact bodyPost_ret (v := .tuple #[.agg #[.slice none 0 0, .slice none 0 0], .int .i64 2]) (by simp [results, Tryz.results48, go_sem, i0', i1']) rfl ⟨_, _, _, _, _, _, _, rfl, by rw [Hxs.out]; exact .inr ⟨Hn.out, rfl, rfl, rfl, rfl, rfl, rfl, rfl⟩, h11.out⟩
    · have hin : i = xs.length := by omega
      subst hin
      obtain ⟨y0, y1, -, -⟩ := P.jm.c2
      have Hall := hid (show ∀ x, x ∈ xs → Inr b x from fun x hx => by obtain ⟨j, hj, e⟩ := mem_ix hx; rw [← e]; exact HI.out j hj)
      have P0 : Mv w g gm N (.cells #[.slice A n c, .slice B n d] 48 (0, 0)) V1 xs.length k1 V2 l2 k2 (shl xs b 0) (Kc.bq Q n) cs wr := by rw [shl_zero]; exact P
      clear P
      go_upto_region 7 with fail
      clear y0 y1
      go_wp2
      go_loopw [8] (fun iv wr => ∃ i, i ≤ xs.length ∧ iv = .int .i64 ((i : Nat) : Int) ∧ Mv w g gm N (.cells #[.slice A n c, .slice B n d] 48 (0, 0)) V1 xs.length k1 V2 l2 k2 (shl xs b i) (Kc.bq Q n) cs wr) (fun iv _ => xs.length - (intOf iv).toNat)
      case atStart => exact ⟨0, Nat.zero_le _, rfl, P0⟩
      case round =>
        obtain ⟨i, hi', rfl, P⟩ := hrel
        clear P0
        by_cases hi : i < xs.length
        · obtain ⟨ad, hA, hc, hf⟩ := P.cell (i := i) (by rw [shl_len]; exact hi)
          rw [shl_at hi] at hc
          have hx := HF.out _ (ix_mem hi)
          have hin := Hall.out _ (ix_mem hi)
          have HL' := HL.out
          subst hA
          obtain ⟨x, hxe⟩ : ∃ x, ix xs i = x := ⟨_, rfl⟩
          have Hxe := hid hxe
          rw [hxe] at hc hx hin
          clear hxe
          have hi1 := hin.1
          have hi2 := hin.2
          obtain ⟨y0, y1, -, -⟩ := P.jm.c2
          have e3 : IntKind.i64.wrap (x + b) = x + b := by rw [IntKind.wrap_i64]; omega
          have Hs := hid (show (shl xs b i).set i (x + b) = shl xs b (i + 1) by rw [← Hxe.out]; exact shl_set hi)
          clear hin hi1 hi2
          go_upto_region 10 with fail
          have Q0 := P.below (dr0 (W := wr))
          have hS : wr.drew.cell? ⟨gm, 0, none⟩ = some (.slice (some ad) xs.length k1) ∧ wr.drew.cell? (ad.add i) = some (.int .i64 x) := ⟨y0, hc⟩
          clear P
          refine wp_region_late 11 (fun w' => w'.cell? ⟨gm, 0, none⟩ = some (.slice (some ad) xs.length k1) ∧ w'.cell? (ad.add i) = some (.int .i64 x)) (by kernel_rfl) (by with_reducible exact hS) (fun hHeld => ?_)
          refine wpLate_take 0 [0, 11] (v := ?_) rfl (by kernel_rfl) (by kernel_rfl) (by kernel_rfl) (fun _ _ _ h => h) (by kernel_rfl) (by kernel_rfl) (Or.inl ⟨by rfl, ?_⟩) hHeld ?_
          rotate_left
          · intro w hSw
            (try dsimp only at hSw)
            go_simp
            (try with_reducible rfl)
          (try simp only [Act.put, List.setIfInBounds_toArray, List.set_cons_zero, List.set_cons_succ])
          refine wpLate_take 1 [1, 11] (v := ?_) rfl (by kernel_rfl) (by kernel_rfl) (by kernel_rfl) (fun _ _ _ h => h) (by kernel_rfl) (by kernel_rfl) (Or.inl ⟨by rfl, ?_⟩) hHeld ?_
          rotate_left
          · intro w hSw
            (try dsimp only at hSw)
            go_simp
            (try with_reducible rfl)
          (try simp only [Act.put, List.setIfInBounds_toArray, List.set_cons_zero, List.set_cons_succ])
          refine wpLate_take 2 [2, 11] (v := ?_) rfl (by kernel_rfl) (by kernel_rfl) (by kernel_rfl) (fun _ _ _ h => h) (by kernel_rfl) (by kernel_rfl) (Or.inl ⟨by rfl, ?_⟩) hHeld ?_
          rotate_left
          · intro w hSw
            (try dsimp only at hSw)
            go_simp
            (try with_reducible rfl)
          (try simp only [Act.put, List.setIfInBounds_toArray, List.set_cons_zero, List.set_cons_succ])
          refine wpLate_take 3 [3, 11] (v := ?_) rfl (by kernel_rfl) (by kernel_rfl) (by kernel_rfl) (fun _ _ _ h => h) (by kernel_rfl) (by kernel_rfl) (Or.inl ⟨by rfl, ?_⟩) hHeld ?_
          rotate_left
          · intro w hSw
            (try dsimp only at hSw)
            go_simp
            (try with_reducible rfl)
          (try simp only [Act.put, List.setIfInBounds_toArray, List.set_cons_zero, List.set_cons_succ])
          refine wpLate_take 4 [4, 11] (v := ?_) rfl (by kernel_rfl) (by kernel_rfl) (by kernel_rfl) (fun _ _ _ h => h) (by kernel_rfl) (by kernel_rfl) (Or.inl ⟨by rfl, ?_⟩) hHeld ?_
          rotate_left
          · intro w hSw
            (try dsimp only at hSw)
            go_simp
            (try with_reducible rfl)
          (try simp only [Act.put, List.setIfInBounds_toArray, List.set_cons_zero, List.set_cons_succ])
          refine wpLate_take 5 [5, 11] (v := ?_) rfl (by kernel_rfl) (by kernel_rfl) (by kernel_rfl) (fun _ _ _ h => h) (by kernel_rfl) (by kernel_rfl) (Or.inl ⟨by rfl, ?_⟩) hHeld ?_
          rotate_left
          · intro w hSw
            (try dsimp only at hSw)
            go_simp
            (try with_reducible rfl)
          (try simp only [Act.put, List.setIfInBounds_toArray, List.set_cons_zero, List.set_cons_succ])
          refine wpLate_take 6 [6, 11] (v := ?_) rfl (by kernel_rfl) (by kernel_rfl) (by kernel_rfl) (fun _ _ _ h => h) (by kernel_rfl) (by kernel_rfl) (Or.inl ⟨by rfl, ?_⟩) hHeld ?_
          rotate_left
          · intro w hSw
            (try dsimp only at hSw)
            go_simp
            (try with_reducible rfl)
          (try simp only [Act.put, List.setIfInBounds_toArray, List.set_cons_zero, List.set_cons_succ])
          refine wpLate_take 7 [7, 11] (v := ?_) rfl (by kernel_rfl) (by kernel_rfl) (by kernel_rfl) (fun _ _ _ h => h) (by kernel_rfl) (by kernel_rfl) (Or.inl ⟨by rfl, ?_⟩) hHeld ?_
          rotate_left
          · intro w hSw
            (try dsimp only at hSw)
            go_simp
            (try with_reducible rfl)
          (try simp only [Act.put, List.setIfInBounds_toArray, List.set_cons_zero, List.set_cons_succ])
          refine wpLate_take 8 [8, 11] (v := ?_) rfl (by kernel_rfl) (by kernel_rfl) (by kernel_rfl) (fun _ _ _ h => h) (by kernel_rfl) (by kernel_rfl) (Or.inl ⟨by rfl, ?_⟩) hHeld ?_
          rotate_left
          · intro w hSw
            (try dsimp only at hSw)
            go_simp
            (try with_reducible rfl)
          (try simp only [Act.put, List.setIfInBounds_toArray, List.set_cons_zero, List.set_cons_succ])
          refine wpLate_take 9 [9, 11] (v := ?_) rfl (by kernel_rfl) (by kernel_rfl) (by kernel_rfl) (fun _ _ _ h => h) (by kernel_rfl) (by kernel_rfl) (Or.inl ⟨by rfl, ?_⟩) hHeld ?_
          rotate_left
          · intro w hSw
            (try dsimp only at hSw)
            go_simp
            (try with_reducible rfl)
          (try simp only [Act.put, List.setIfInBounds_toArray, List.set_cons_zero, List.set_cons_succ])
          refine wpLate_take 10 [10, 11] (v := ?_) rfl (by kernel_rfl) (by kernel_rfl) (by kernel_rfl) (fun _ _ _ h => h) (by kernel_rfl) (by kernel_rfl) (Or.inl ⟨by rfl, ?_⟩) hHeld ?_
          rotate_left
          · intro w hSw
            (try dsimp only at hSw)
            go_simp
            (try with_reducible rfl)
          (try simp only [Act.put, List.setIfInBounds_toArray, List.set_cons_zero, List.set_cons_succ])
          clear hHeld
          refine wpLate_last 11 rfl (by kernel_rfl) (by kernel_rfl) rfl (fun K hK => ?_)
          go_simp
          refine hK.out _ _ ?_
          clear hK K
          (try simp only [Act.put, List.setIfInBounds_toArray, List.set_cons_zero, List.set_cons_succ])
          have HP := hid (Q0.puta (i := i) (by rw [shl_len]; exact hi) (x + b))
          clear Q0
          go_wp2
          go_roundw
          case rel => exact ⟨i + 1, hi, by go_num, by rw [← Hs.out]; exact HP.out⟩
          case measure => simp [intOf]; omega
        · have hin : i = xs.length := by omega
          subst hin
          rw [shl_all] at P
          obtain ⟨y0, y1, -, -⟩ := P.jm.c2
          obtain ⟨i0', i1', i2', i3'⟩ := P.jr.c2
          have hl7 := P.jr.lt
          have hG := gb2 wr (g + 1) 0 1 (.slice V1 xs.length k1) (.slice V2 l2 k2)
          have HC := hid (P.co.offbox P.jr (noInt_two _ _ _ _ _ _) hG (by have := P.hN; omega))
          have h11 := hid (P.bl.grown hG P.bl.size (fun k hk => by injection hk with hk; have := Hg.out; omega))
          clear P
          go_wp2
          exact bodyPost_ret (v := .tuple #[.agg #[.slice V1 xs.length k1, .slice V2 l2 k2], .int .i64 0]) (by simp [results, Tryz.results48, go_sem, i0', i1']) rfl ⟨_, _, _, _, _, _, _, rfl, by rw [Hxs.out]; exact .inl ⟨Hall.out, rfl, _, _, HC.out⟩, h11.out⟩

end Go.Proofs.YtffipjofefemiaaGreatDoor

