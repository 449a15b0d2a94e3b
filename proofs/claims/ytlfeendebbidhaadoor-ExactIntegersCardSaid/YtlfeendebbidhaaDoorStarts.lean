/- The contract of startsUpTo at the curve and the number of the statements' example. -/
import Derived.Test.YtlfeendebbidhaaDoorFloor
namespace Go.Proofs.YtlfeendebbidhaaDoor
open Go.RowKit Kb

theorem Nm.fr {w : World} {A B : Option Addr} {n c m d a b : Nat} (p : Bool) (h : Nm w (.slice A n c) a) (k : Nm w (.slice B m d) b) (ha : a < 65536) (hb : b < 65536) (h0 : b ≠ 0) : Fr w p A n c a B m d b := by
  have l1 : ∀ x : Nat, x < 65536 → (dig x).length ≤ 100000000 := fun x hx => by
    have : (dig x).length ≤ 1 := dig_length_le (by rw [Nat.pow_one]; exact hx)
    omega
  exact ⟨h.raw, k.raw, h0, l1 a ha, l1 b hb⟩

set_option maxRecDepth 100000 in
set_option maxHeartbeats 2000000 in
theorem startsUpTo_5 (b : Nat) (S : Option Addr) (sn sc : Nat) (A B : Option Addr) (n c m d : Nat) (w : World) (hc0 : w.cell? ⟨b, 0, none⟩ = some (.int .i64 0)) (hc1 : w.cell? ⟨b, 1, none⟩ = some (.int .i64 10)) (hbl : b < w.heap.size) (hn : Nm w (.slice A n c) 5) (hd : Nm w (.slice B m d) 1) :
    Calls Tryd.prog 81 #[.agg #[.slice (some ⟨b, 0, none⟩) 2 2, .slice S sn sc], .agg #[.bool false, .slice A n c, .bool false, .slice B m d]] w fun e w' => e = .returned (.int .i64 1) ∧ Below w.heap.size w w' := by
  have hb0 := below_two w (.cells #[.slice (some ⟨b, 0, none⟩) 2 2, .slice S sn sc] 58) (.cells #[.bool false, .slice A n c, .bool false, .slice B m d] 42)
  have j1 := box1 w (.cells #[.slice (some ⟨b, 0, none⟩) 2 2, .slice S sn sc] 58) (.cells #[.bool false, .slice A n c, .bool false, .slice B m d] 42)
  have h0 := (Nm.fr false hn hd (by decide) (by decide) (by decide)).below hb0
  go_enter Tryd.func81, Tryd.ntmps81
  go_wp2_with fail
  refine (Floor_pos false A B n c m d 5 1 _ h0).mono ?_
  rintro e w1 ⟨v, rfl, hv, hb1⟩
  replace j1 := j1.step hb1
  have hB1 := hid (bthen hb0 hb1 (Nat.le_refl _))
  rw [show toZ false 5 / ((1 : Nat) : Int) = 5 from rfl] at hv
  obtain ⟨A1, n1, c1, rfl, hn1⟩ := hv
  rw [show decide ((5 : Int) < 0) = false from rfl]
  have hqb := (Below.refl w1.heap.size w1).alloc (Nat.le_refl _) (.cells #[.bool false, .slice A1 n1 c1] 24)
  replace j1 := j1.alloc (.cells #[.bool false, .slice A1 n1 c1] 24)
  have hn2 := hn1.below hqb
  have hB2 := hid (bthen hB1.out hqb (Nat.le_refl _))
  clear hqb hn1 hb1 h0 hb0
  go_wp2_with fail
  refine (Small_nat A1 n1 c1 5 _ hn2.raw (by decide)).mono ?_
  rintro e w2 ⟨rfl, hb2⟩
  replace j1 := j1.step hb2
  have hB3 := hid (bthen hB2.out hb2 (Nat.le_refl _))
  obtain ⟨x0, x1, -, -⟩ := j1.c2
  have hlw := j1.lt
  go_wp2_with fail
  have hz := Tryd.slices_BinarySearch_int b 0 2 2 [0, 10] 5 w2 (by decide) (by decide) (fun j hj => by
    have h2 : j = 0 ∨ j = 1 := by simp at hj; omega
    rcases h2 with rfl | rfl
    · exact (hB3.out.cell (p := ⟨b, 0, none⟩) hbl).trans hc0
    · exact (hB3.out.cell (p := ⟨b, 1, none⟩) hbl).trans hc1) (by decide)
  refine hz.mono ?_
  rintro e w3 ⟨rfl, q, rfl⟩
  have hB4 := hid (hB3.out.drewN' q)
  rw [show ((([0, 10] : List Int).take 2).countP (· < 5) : Int) = 1 from by decide, show (([0, 10] : List Int).take 2).contains 5 = false from by decide]
  go_wp2
  go_ret
  exact ⟨rfl, hB4.out⟩

end Go.Proofs.YtlfeendebbidhaaDoor
