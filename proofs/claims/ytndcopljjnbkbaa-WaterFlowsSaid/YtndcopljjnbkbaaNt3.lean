/- Networks: FirstError; the set of the names seen; the error of a list of named things. For all lists. -/
import Derived.Test.YtndcopljjnbkbaaNt2
import Derived.Maps.Own
import Derived.Maps.Views
namespace Go.Proofs.Ytndcopljjnbkbaa
open Go.RowKit Go.Maps Kb Wb

/-- The slice at A reads as numbers. -/
def Xs (w : World) (A : Option Addr) (n : Nat) (X : Nat → Int) : Prop := ∀ i, i < n → ∃ ad, A = some ad ∧ w.cell? (ad.add i) = some (.int .i64 (X i))
/-- r is the first number that is not 0, or 0. -/
def Fe (n : Nat) (X : Nat → Int) (r : Int) : Prop := (∃ i, i < n ∧ (∀ j, j < i → X j = 0) ∧ X i ≠ 0 ∧ r = X i) ∨ ((∀ j, j < n → X j = 0) ∧ r = 0)
set_option maxRecDepth 100000 in
set_option maxHeartbeats 4000000 in
theorem FirstError_any {w : World} {n c : Nat} {A : Option Addr} {X : Nat → Int} (h : Xs w A n X) (hn : n ≤ 1000) :
    Calls Try.prog 47 #[.slice A n c] w fun e w' => ∃ r : Int, e = .returned (.int .i64 r) ∧ Hid (Fe n X r) ∧ w = w' := by
  go_enter Try.func47, Try.ntmps47
  go_wp2_with fail
  go_loop [7] (fun iv => ∃ i : Nat, i ≤ n ∧ iv = .int .i64 i ∧ Hid (∀ j, j < i → X j = 0)) (fun iv => n - (intOf iv).toNat)
  case atStart => exact ⟨0, Nat.zero_le _, rfl, hid (fun j hj => absurd hj (Nat.not_lt_zero _))⟩
  case round =>
    obtain ⟨i, hi, rfl, HN⟩ := hrel
    by_cases hlt : i < n
    · obtain ⟨ad, hA, q0⟩ := h i hlt
      subst hA
      by_cases hx : X i = 0
      · have d : (X i != 0) = false := by rw [bne_eq_false_iff_eq]; exact hx
        have HN2 := hid (show ∀ j, j < i + 1 → X j = 0 from fun j hj => by
          by_cases e : j = i
          · subst e; exact hx
          · exact HN.out j (by omega))
        clear hx
        go_wp2
        go_round
        case rel => exact ⟨i + 1, by omega, by go_num, HN2⟩
        case measure => simp [intOf]; omega
      · have d : (X i != 0) = true := by rw [bne_iff_ne]; exact hx
        have HE := hid (show Fe n X (X i) from .inl ⟨i, hlt, HN.out, hx, rfl⟩)
        clear hx
        go_wp2
        go_ret
        exact ⟨_, rfl, HE, rfl⟩
    · obtain rfl : i = n := by omega
      have HE := hid (show Fe i X 0 from .inr ⟨HN.out, rfl⟩)
      go_wp2
      go_ret
      exact ⟨_, rfl, HE, rfl⟩

theorem law : Keyed Try.prog 9 := string_keyed Try.underlying9
theorem zeroB (w : World) : (zeroValue 4).run Try.prog w = .ok (.bool false) w := by kernel_rfl
/-- Block b is the set of the texts of f. -/
def Ns (w : World) (b k : Nat) (f : List UInt8 → Bool) : Prop := ∃ D : DataW Unit, w.ownsMap Try.prog 9 (plainElem Try.prog 4) b k D ∧ IsMap D ∧ ∀ l, D.atKey (.string l) (.lit (.bool false)) = .lit (.bool (f l))
theorem Ns.below {w w' : World} {b k : Nat} {f : List UInt8 → Bool} (h : Ns w b k f) (hb : Below w.heap.size w w') : Ns w' b k f := by
  obtain ⟨D, h1, h2, h3⟩ := h
  exact ⟨D, h1.kept (gb_of_below (r := none) hb) (by simp), h2, h3⟩
theorem Ns.lt {w : World} {b k : Nat} {f : List UInt8 → Bool} (h : Ns w b k f) : b < w.heap.size := by
  obtain ⟨D, h1, _⟩ := h
  exact h1.lt
theorem Ns.new (w : World) : Ns (w.alloc (.map #[] 0)) w.heap.size 0 fun _ => false :=
  ⟨.map [], World.ownsMap_made _ _ _ _, isMap_empty, fun _ => rfl⟩
theorem plain_inv {P : Program} {e : TypeId} (he : P.underlying e = some .bool) {v : Value} {z : DataW Unit × List MemPlace} (h : plainElem P e v = some z) : ∃ x, v = .bool x ∧ z = (.lit (.bool x), []) := by
  unfold plainElem at h
  rw [he] at h
  cases v <;> simp at h
  exact ⟨_, rfl, h.symm⟩
set_option maxRecDepth 100000 in
theorem Ns.look {w : World} {b k : Nat} {f : List UInt8 → Bool} (h : Ns w b k f) (s : ByteArray) (hs : s.size ≤ maxLen) : (Instr.lookup 138 (.map (some b)) (.string s) false).run Try.prog w = .ok (.bool (f (bl s))) w := by
  obtain ⟨D, h1, h2, h3⟩ := h
  obtain ⟨v, ps, hr, hv⟩ := h1.lookup law Try.underlying138 (zeroB w) (plainElem_bool Try.underlying4 false) (Go.WideMaps.keyOf_string_mk Try.underlying9 hs)
  obtain ⟨x, e1, e2⟩ := plain_inv Try.underlying4 hv
  have e3 : D.atKey (.string (bl s)) (.lit (.bool false)) = .lit (.bool x) := congrArg Prod.fst e2
  rw [h3] at e3
  injection e3 with e3
  injection e3 with e3
  rw [hr, e1, e3]

end Go.Proofs.Ytndcopljjnbkbaa
