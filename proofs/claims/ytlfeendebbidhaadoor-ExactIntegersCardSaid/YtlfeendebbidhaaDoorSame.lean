/- The contract of SameInt at two values of one integer. For all integers whose limbs fit into memory. -/
import Derived.Test.YtlfeendebbidhaaDoorCmp2
namespace Go.Proofs.YtlfeendebbidhaaDoor
open Go.RowKit Kb

set_option maxRecDepth 100000 in
set_option maxHeartbeats 2000000 in
theorem SameInt_true (p : Bool) (A B : Option Addr) (n c m d a : Nat) (w : World) (h : Nm w (.slice A n c) a) (k : Nm w (.slice B m d) a) :
    Calls Tryd.prog 12 #[.agg #[.bool p, .slice A n c], .agg #[.bool p, .slice B m d]] w fun e w' => e = .returned (.bool true) ∧ Below w.heap.size w w' := by
  have hlen := h.len
  obtain ⟨A', c', e, h1, h2, h3⟩ := h
  obtain ⟨B', d', e', k1, k2, k3⟩ := k
  injection e with e1 e2 e3
  injection e' with e1' e2' e3'
  subst e1; subst e2; subst e3; subst e1'; subst e2'; subst e3'
  have hpp : (p == p) = true := by cases p <;> rfl
  have hll : (((dig a).length : Int) != ((dig a).length : Int)) = false := by simp
  have b0 := B2.new w 24 p p A B (dig a).length c (dig a).length d
  have hB := ((Below.refl w.heap.size w).alloc (Nat.le_refl _) (.cells #[.bool p, .slice A (dig a).length c] 24)).alloc (by simp) (.cells #[.bool p, .slice B (dig a).length d] 24)
  obtain ⟨g, hg⟩ : ∃ g, w.heap.size = g := ⟨_, rfl⟩
  go_enter Tryd.func12, Tryd.ntmps12
  go_wp2
  rw [hg] at b0
  generalize (w.alloc (.cells #[.bool p, .slice A (dig a).length c] 24)).alloc (.cells #[.bool p, .slice B (dig a).length d] 24) = W0 at *
  have HB := hid hB
  have Hg := hid hg
  have h0 := h1.below hB
  have k0 := k1.below hB
  clear hB hg h1 k1
  go_loopw [5] (fun iv wr => ∃ i : Nat, i ≤ (dig a).length ∧ iv = .int .i64 i ∧ Qt W0 wr) (fun iv _ => (dig a).length - (intOf iv).toNat)
  case atStart => exact ⟨0, Nat.zero_le _, rfl, Qt.refl _⟩
  case round =>
    obtain ⟨i, hi, rfl, hq⟩ := hrel
    have b1 := b0.below (hq.below W0.heap.size) (by have := b0.lt; omega)
    obtain ⟨x0, x1, x2, x3⟩ := b1.cells
    by_cases hlt : i < (dig a).length
    · obtain ⟨ad, rfl, hb1, hcell⟩ := (h0.qt hq) i hlt
      obtain ⟨bd, rfl, hb2, hcell2⟩ := (k0.qt hq) i hlt
      have hee : (((nth (dig a) i : Nat) : Int) != ((nth (dig a) i : Nat) : Int)) = false := by simp
      go_wp2
      go_quiet (fail)
      go_wp2
      go_roundw
      case rel => exact ⟨i + 1, hlt, by go_num, hq.drewN _⟩
      case measure => simp [intOf]; omega
    · have hbb := bthen HB.out (hq.below _) (Nat.le_refl _)
      go_wp2
      go_ret
      exact ⟨rfl, hbb⟩

theorem SameInt_nz {v u : Value} {z : Int} {w : World} (h : Nz w v z) (k : Nz w u z) :
    Calls Tryd.prog 12 #[v, u] w fun e w' => e = .returned (.bool true) ∧ Below w.heap.size w w' := by
  obtain ⟨A, n, c, rfl, h1⟩ := h
  obtain ⟨B, m, d, rfl, k1⟩ := k
  exact SameInt_true _ A B n c m d _ w h1 k1

end Go.Proofs.YtlfeendebbidhaaDoor
