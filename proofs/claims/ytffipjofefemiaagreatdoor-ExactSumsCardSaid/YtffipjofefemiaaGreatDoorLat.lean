/- A region's orders, where a fact on the world is asked behind every operation but the late one. -/
import Derived.Test.YtffipjofefemiaaGreatDoorElc
import Derived.StillTail
import Derived.Deep.RegionHeld3
namespace Go.Proofs.YtffipjofefemiaaGreatDoor
open Go.RowKit Kb

section
variable {P : Program} {ops : Array Oper} {Q : Exit → Act → World → Prop} {md : Region.Mode} {S : World → Prop} {late : Nat}

/-- Whatever order is picked: behind every operation but number 'late' the world meets S. -/
def wpLate (P : Program) (md : Region.Mode) (ops : Array Oper) (Q : Exit → Act → World → Prop) (S : World → Prop) (late : Nat) : Nat → Array Bool → Act → World → Prop
  | 0, seen, a, w => Region.ready md ops seen = [] ∧ Q .normal a w
  | fuel + 1, seen, a, w =>
    (Region.ready md ops seen = [] → Q .normal a w) ∧
    ∀ i ∈ Region.ready md ops seen, wpOp P ops Q i (fun a' w' => (i ≠ late → S w') ∧ wpLate P md ops Q S late fuel (seen.setIfInBounds i true) a' w') a w

theorem wpAny_of_wpLate : ∀ (fuel : Nat) (seen : Array Bool) (a : Act) (w : World), wpLate P md ops Q S late fuel seen a w → wpAny P md ops Q fuel seen a w
  | 0, _, _, _, h => h
  | fuel + 1, _, _, _, h => ⟨h.1, fun i hi => wpOp_mono (fun a' w' h' => wpAny_of_wpLate fuel _ a' w' h'.2) (h.2 i hi)⟩

/-- D leads from operation i to the late one: each waits for one of D, i apart; none has come up. -/
def leads (md : Region.Mode) (ops : Array Oper) (late i : Nat) (D : List Nat) : Bool :=
  D.contains late && D.all fun d => d == i || D.any fun e => Region.waitsFor md ops d e
def fresh (seen : Array Bool) (D : List Nat) : Bool := D.all fun d => !seen.getD d true

theorem leads_not_ready {i j : Nat} {D : List Nat} {seen : Array Bool} (hl : leads md ops late i D = true) (hf : fresh seen D = true) (hj : j ∈ Region.ready md ops seen) (hji : j ≠ i) : j ∉ D := by
  intro hD
  unfold leads at hl
  rw [Bool.and_eq_true, List.all_eq_true] at hl
  have h1 := hl.2 j hD
  rw [Bool.or_eq_true, List.any_eq_true] at h1
  rcases h1 with h1 | ⟨e, he, h1⟩
  · exact hji (by simpa using h1)
  · obtain ⟨oj, hoj, ed, hed, hb, hon⟩ := Region.waitsFor_spec h1
    obtain ⟨-, oj', hoj', hall⟩ := mem_ready.1 hj
    rw [hoj] at hoj'
    cases hoj'
    have h2 := hall ed hed hb
    unfold fresh at hf
    rw [List.all_eq_true] at hf
    have h3 := hf e he
    rw [hon] at h2
    rcases Nat.lt_or_ge e seen.size with h' | h'
    · simp [h'] at h2 h3; rw [h3] at h2; cases h2
    · simp [Array.getElem?_eq_none h'] at h2
theorem fresh_set {j : Nat} {D : List Nat} {seen : Array Bool} (hf : fresh seen D = true) (hj : j ∉ D) : fresh (seen.setIfInBounds j true) D = true := by
  unfold fresh at hf ⊢
  rw [List.all_eq_true] at hf ⊢
  intro d hd
  have h := hf d hd
  have hne : j ≠ d := fun e => hj (e ▸ hd)
  rw [getD_set_ne true hne]
  exact h

/-- An operation that yields in every world that meets S may be taken first, if it leads to the late one. -/
theorem wpLate_first {i : Nat} {D : List Nat} {oi : Oper} {v : Value} (hi : ops[i]? = some oi) (hsel : ∀ (j : Nat) (o : Oper) cs b, ops[j]? = some o → o.op ≠ .select cs b)
    (hQ : ∀ c a w, Q (.panic c) (a.put oi.dst v) w → Q (.panic c) a w) (hl : leads md ops late i D = true) :
    ∀ (fuel : Nat) (seen : Array Bool) (a : Act) (w : World), fresh seen D = true →
      (∀ j oj, ops[j]? = some oj → j ≠ i → seen.getD j true = false → (∀ e ∈ oj.after, Region.binds md e = true → e.on ≠ i) → oi.apart ops oj = true) →
      i ∈ Region.ready md ops seen → YieldsIf P ops S oi v a → S w →
      wpLate P md ops Q S late fuel (seen.setIfInBounds i true) (a.put oi.dst v) w → wpLate P md ops Q S late (fuel + 1) seen a w := by
  have hlate : late ∈ D := by
    unfold leads at hl
    rw [Bool.and_eq_true] at hl
    simpa using hl.1
  intro fuel
  induction fuel with
  | zero =>
    intro seen a w _ _ hr hy hS H
    refine ⟨fun h => absurd hr (by rw [h]; simp), fun j hj => ?_⟩
    by_cases hji : j = i
    · rw [hji]
      exact hy.wpOp hi hS ⟨fun _ => hS, H⟩
    · exact absurd (ready_mono hj hji) (by rw [H.1]; simp)
  | succ fuel ih =>
    intro seen a w hf hfree hr hy hS H
    refine ⟨fun h => absurd hr (by rw [h]; simp), fun j hj => ?_⟩
    by_cases hji : j = i
    · rw [hji]
      exact hy.wpOp hi hS ⟨fun _ => hS, H⟩
    · have hjD := leads_not_ready hl hf hj hji
      have hjl : j ≠ late := fun e => hjD (e ▸ hlate)
      obtain ⟨hun, oj, hoj, hall⟩ := mem_ready.1 hj
      have hi0 := (mem_ready.1 hr).1
      have hno : ∀ e ∈ oj.after, Region.binds md e = true → e.on ≠ i := fun e he hb heq => by
        have h1 := hall e he hb
        rw [heq] at h1
        rcases Nat.lt_or_ge i seen.size with h' | h'
        · simp [h'] at hi0 h1; rw [hi0] at h1; cases h1
        · simp [Array.getElem?_eq_none h'] at h1
      have h2 := wpOp_putIf hoj (hfree j oj hoj hji hun hno) (fun cs b => hsel i oi cs b hi) (fun cs b => hsel j oj cs b hoj) hQ hy (H.2 j (ready_mono hj hji))
      refine wpOp_mono (fun a' w' h3 => ⟨fun _ => h3.2.1 hjl, ih (seen.setIfInBounds j true) a' w' (fresh_set hf hjD) ?_ (ready_mono hr (Ne.symm hji)) h3.1 (h3.2.1 hjl) ?_⟩) h2
      · intro k ok hk hki hku hkn
        refine hfree k ok hk hki ?_ hkn
        by_cases hjk : j = k
        · rw [← hjk]; exact hun
        · rw [getD_set_ne true hjk] at hku; exact hku
      · rw [Array.setIfInBounds_comm _ _ hji]
        exact h3.2.2

/-- Number i of a list that is written out. -/
def nth : List Oper → Nat → Option Oper
  | [], _ => none
  | o :: _, 0 => some o
  | _ :: l, i + 1 => nth l i
theorem nth_eq {l : List Oper} {i : Nat} {o : Oper} (h : nth l i = some o) : l[i]? = some o := by
  induction l generalizing i with
  | nil => cases h
  | cons x l ih =>
    cases i with
    | zero => exact h
    | succ i => exact ih h
theorem nth_ops {i : Nat} {o : Oper} (h : nth ops.toList i = some o) : ops[i]? = some o := by
  rw [← Array.getElem?_toList]
  exact nth_eq h
/-- The move of a walk: number i is taken first. -/
theorem wpLate_take (i : Nat) (D : List Nat) {oi : Oper} {v : Value} {fuel : Nat} {seen : Array Bool} {a : Act} {w : World} (hi : nth ops.toList i = some oi)
    (hs : Region.noSelect ops = true) (hf : Region.free md ops seen i = true) (hr : (Region.ready md ops seen).contains i = true)
    (hQ : ∀ c a w, Q (.panic c) (a.put oi.dst v) w → Q (.panic c) a w) (hl : leads md ops late i D = true) (hd : fresh seen D = true) (hy : YieldsIf P ops S oi v a) (hS : S w)
    (h : wpLate P md ops Q S late fuel (seen.setIfInBounds i true) (a.put oi.dst v) w) : wpLate P md ops Q S late (fuel + 1) seen a w :=
  wpLate_first (nth_ops hi) (Region.noSelect_spec hs) hQ hl fuel seen a w hd (Region.free_spec (nth_ops hi) hf) (by simpa using hr) hy hS h

/-- Number i is the only one that may come up, and it is not the late one. -/
theorem wpLate_one (i : Nat) {o : Oper} {fuel : Nat} {seen : Array Bool} {a : Act} {w : World} (hr : Region.ready md ops seen = [i]) (ho : nth ops.toList i = some o)
    (h : ∀ K' : Act → World → Prop, Shut (∀ a w, S w → (S w → wpLate P md ops Q S late fuel (seen.setIfInBounds i true) a w) → K' a w) → if Region.wanted o (yielded ops a.tmps) = true then Oper.wp P o a w K' Q else K' (a.put o.dst undef) w) : wpLate P md ops Q S late (fuel + 1) seen a w := by
  refine ⟨fun h0 => absurd hr (by rw [h0]; simp), fun j hj => ?_⟩
  rw [hr, List.mem_singleton] at hj
  subst hj
  exact wpOp_step (nth_ops ho) (fun K' hK => h K' (fun a w hS hW => hK a w ⟨fun _ => hS, hW hS⟩))
/-- The late one, and nothing behind it. -/
theorem wpLate_last (i : Nat) {o : Oper} {fuel : Nat} {seen : Array Bool} {a : Act} {w : World} (hi : i = late) (hr : Region.ready md ops seen = [i]) (hn : Region.ready md ops (seen.setIfInBounds i true) = []) (ho : nth ops.toList i = some o)
    (h : ∀ K' : Act → World → Prop, Shut (∀ a w, Q .normal a w → K' a w) → if Region.wanted o (yielded ops a.tmps) = true then Oper.wp P o a w K' Q else K' (a.put o.dst undef) w) : wpLate P md ops Q S late (fuel + 1) seen a w := by
  refine ⟨fun h0 => absurd hr (by rw [h0]; simp), fun j hj => ?_⟩
  rw [hr, List.mem_singleton] at hj
  subst hj
  refine wpOp_step (nth_ops ho) (fun K' hK => h K' (fun a w hq => hK a w ⟨fun e => absurd hi e, ?_⟩))
  cases fuel with
  | zero => exact ⟨hn, hq⟩
  | succ f => exact ⟨fun _ => hq, by rw [hn]; simp⟩
/-- The beginning. -/
theorem wp_region_late (late : Nat) (S : World → Prop) {id : Nat} {a : Act} {w : World} (hm : P.follows .mixedOrders = true) (hS : S w.drew)
    (h : S w.drew → wpLate P .any ops Q S late ops.size (Array.replicate ops.size false) a w.drew) : (Code.region id ops true).wp P Q a w :=
  wp_region_any hm (wpAny_of_wpLate _ _ _ _ (h hS))
end
end Go.Proofs.YtffipjofefemiaaGreatDoor
