/- The contracts of duplicate, opposite, parts. For all integers whose limbs fit into memory. -/
import Derived.Test.YtlfeendebbidhaaDoorRat
namespace Go.Proofs.YtlfeendebbidhaaDoor
open Go.RowKit Kb

/-- Two boxes that stand. -/
def P2 (W : World) (g : Nat) (o1 o2 : Obj) : Prop := W.heap[g]? = some o1 ∧ W.heap[g + 1]? = some o2
theorem P2.below {W W' : World} {g N : Nat} {o1 o2 : Obj} (h : P2 W g o1 o2) (hb : Below N W W') (hN : g + 2 ≤ N) : P2 W' g o1 o2 :=
  ⟨(hb.block _ (by omega)).trans h.1, (hb.block _ (by omega)).trans h.2⟩
theorem P2.lt {W : World} {g : Nat} {o1 o2 : Obj} (h : P2 W g o1 o2) : g + 1 < W.heap.size := (Array.getElem?_eq_some_iff.1 h.2).1
theorem P2.one {W : World} {g : Nat} {o1 o2 : Obj} (h : P2 W g o1 o2) : W.heap[g]? = some o1 := h.1
theorem P2.two {W : World} {g : Nat} {o1 o2 : Obj} (h : P2 W g o1 o2) : W.heap[g + 1]? = some o2 := h.2
theorem P2.new (w : World) (o1 o2 : Obj) : P2 ((w.alloc o1).alloc o2) w.heap.size o1 o2 := two_new w o1 o2

set_option maxRecDepth 100000 in
set_option maxHeartbeats 4000000 in
theorem duplicate_any (p : Bool) (A : Option Addr) (n c a : Nat) (w : World) (h : Raw w A n c a) (ha : (dig a).length ≤ 400000000) :
    Calls Tryd.prog 63 #[.agg #[.bool p, .slice A n c]] w fun e w' => ∃ v, e = .returned v ∧ Nz w' v (toZ p a) ∧ Below w.heap.size w w' := by
  have b0 := P2.new w (.cells #[.bool p, .slice A n c] 24) (.cells #[.bool false, .slice none 0 0] 24)
  have hB := ((Below.refl w.heap.size w).alloc (Nat.le_refl _) (.cells #[.bool p, .slice A n c] 24)).alloc (by simp) (.cells #[.bool false, .slice none 0 0] 24)
  obtain ⟨g, hg⟩ : ∃ g, w.heap.size = g := ⟨_, rfl⟩
  go_enter Tryd.func63, Tryd.ntmps63
  go_wp2_with fail
  rw [hg] at b0
  generalize (w.alloc (.cells #[.bool p, .slice A n c] 24)).alloc (.cells #[.bool false, .slice none 0 0] 24) = W0 at *
  have HB := hid hB
  have Hg := hid hg
  have h0 : Raw W0.drew A n c a := h.below hB.drew
  have hl0 := b0.lt
  clear hB hg h
  obtain ⟨x0, x1, _, _⟩ := cells2 b0.one
  have hg3 : g + 2 ≤ W0.drew.heap.size := by show g + 2 ≤ W0.heap.size; omega
  have b0' : P2 W0.drew g (.cells #[.bool p, .slice A n c] 24) (.cells #[.bool false, .slice none 0 0] 24) := b0
  go_region_held3 (fun w' => w'.cell? ⟨g, 0, none⟩ = some (.bool p) ∧ w'.cell? ⟨g, 1, none⟩ = some (.slice A n c)) (first | exact ⟨x0, x1⟩ | exact ⟨y0, y1⟩ | exact ⟨z0, z1⟩ | exact ⟨t0, t1⟩ | exact ⟨off_two (by omega) t0, off_two (by omega) t1⟩) (first
    | (go_at_call 39; with_reducible refine (size_any p A n c a W0.drew h0).mono ?_; rintro e w1 ⟨v1, rfl, hv1, hb1⟩; have b1 := b0'.below hb1 hg3; have hl1 := b1.lt; obtain ⟨y0, y1, _, _⟩ := cells2 b1.one)
    | (go_at_call 70; with_reducible refine (clone_nm hv1 (by omega)).mono ?_; rintro e w2 ⟨v2, rfl, hv2, hb2⟩; have b2 := b1.below hb2 (by omega); have hl2 := b2.lt; obtain ⟨z0, z1, _, _⟩ := cells2 b2.one)
    | (go_at_call 42; with_reducible refine (nz_openb (integer_nm hv2)).mono ?_; rintro e w3 ⟨s3, A3, n3, c3, rfl, hs3, hn3, hb3⟩; have b3 := b2.below hb3 (by omega); have hl3 := b3.lt; obtain ⟨t0, t1, _, _⟩ := cells2 b3.one; obtain ⟨t4, t5, t6, t7⟩ := cells2 b3.two))
  have hgl := Hg.out
  have h3 := bthen (bthen (bthen HB.out.drew hb1 (Nat.le_refl _)) hb2 (Nat.le_refl _)) hb3 (Nat.le_refl _)
  have h4 := (h3.setCell (p := ⟨g + 1, 0, none⟩) (by show w.heap.size ≤ g + 1; omega) (.bool s3)).setCell (p := ⟨g + 1, 1, none⟩) (by show w.heap.size ≤ g + 1; omega) (.slice A3 n3 c3)
  have m3 := hn3.offbox b3.two (noInt_zero _ _ _ _) (gb2 _ (g + 1) 0 1 (.bool s3) (.slice A3 n3 c3))
  clear hgl
  go_wp2
  exact bodyPost_ret (v := .agg #[.bool s3, .slice A3 n3 c3]) (by simp [results, Tryd.results63, go_sem, t4, t5]) rfl ⟨_, rfl, ⟨A3, n3, c3, by rw [hs3.out], m3⟩, h4⟩

end Go.Proofs.YtlfeendebbidhaaDoor
