/- The contract of total.add at any denominators. For all fractions of at most 400 limbs. -/
import Derived.Test.YtffipjofefemiaaGreatDoorQuot
namespace Go.Proofs.YtffipjofefemiaaGreatDoor
open Go.RowKit Kb

/-- The total at block g is the fraction r, of size k. -/
def Tq (w : World) (g k : Nat) (r : Rat) : Prop := ∃ s1 A1 n1 c1 A2 n2 c2 tn td, Bk w g (.cells #[.bool s1, .slice A1 n1 c1, .bool false, .slice A2 n2 c2] 137 (0, 0)) ∧ Zn w s1 A1 n1 c1 tn ∧ Zn w false A2 n2 c2 ((td : Nat) : Int) ∧ Pq k r tn td
theorem gb_far {w w' : World} {g i j : Nat} {v : Value} (h : w.grownBy w' (some g)) (hi : w.heap.size ≤ i) : w.grownBy (w'.setCell ⟨i, j, none⟩ v) (some g) :=
  ⟨h.os, h.tape, h.output, by have := h.size; simpa [World.setCell] using this, fun k hk hne => by
    rw [Below.heap_setCell _ _ _ _ (fun e => by have : k = i := e; omega)]
    exact h.block k hk hne⟩
/-- What stays in total.add, up to its first store. -/
structure Ta (w : World) (g g1 : Nat) (s1 : Bool) (A1 : Option Addr) (n1 c1 : Nat) (tn : Int) (A2 : Option Addr) (n2 c2 td : Nat) (p : Bool) (A : Option Addr) (n c : Nat) (B : Option Addr) (m d l : Nat) (x : Rat) (a : Int) (b : Nat) (wx : World) : Prop where
  t : Bk wx g (.cells #[.bool s1, .slice A1 n1 c1, .bool false, .slice A2 n2 c2] 137 (0, 0))
  zn : Zn wx s1 A1 n1 c1 tn
  zd : Zn wx false A2 n2 c2 (td : Int)
  jn : Bk wx g1 (.cells #[.bool p, .slice A n c] 24 (0, 0))
  jd : Bk wx (g1 + 1) (.cells #[.bool false, .slice B m d] 24 (0, 0))
  f : Pf wx p A n c B m d l x a b
  T : Tb wx
  gb : w.grownBy wx (some g)
  lt : g < g1
section
variable {w wx wy : World} {g g1 : Nat} {s1 : Bool} {A1 : Option Addr} {n1 c1 : Nat} {tn : Int} {A2 : Option Addr} {n2 c2 td : Nat} {p : Bool} {A : Option Addr} {n c : Nat} {B : Option Addr} {m d l : Nat} {x : Rat} {a : Int} {b : Nat}
theorem Ta.below (h : Ta w g g1 s1 A1 n1 c1 tn A2 n2 c2 td p A n c B m d l x a b wx) (hb : Below wx.heap.size wx wy) : Ta w g g1 s1 A1 n1 c1 tn A2 n2 c2 td p A n c B m d l x a b wy :=
  ⟨h.t.step hb, h.zn.below hb, h.zd.below hb, h.jn.step hb, h.jd.step hb, h.f.below hb, h.T.below hb, gb_trans h.gb (gb_of_below hb), h.lt⟩
theorem Ta.cells (h : Ta w g g1 s1 A1 n1 c1 tn A2 n2 c2 td p A n c B m d l x a b wx) : wx.cell? ⟨g, 0, none⟩ = some (.bool s1) ∧ wx.cell? ⟨g, 1, none⟩ = some (.slice A1 n1 c1) ∧ wx.cell? ⟨g, 2, none⟩ = some (.bool false) ∧ wx.cell? ⟨g, 3, none⟩ = some (.slice A2 n2 c2) ∧ wx.cell? ⟨g1, 0, none⟩ = some (.bool p) ∧ wx.cell? ⟨g1, 1, none⟩ = some (.slice A n c) ∧ wx.cell? ⟨g1 + 1, 0, none⟩ = some (.bool false) ∧ wx.cell? ⟨g1 + 1, 1, none⟩ = some (.slice B m d) :=
  ⟨h.t.c4.1, h.t.c4.2.1, h.t.c4.2.2.1, h.t.c4.2.2.2.1, h.jn.c2.1, h.jn.c2.2.1, h.jd.c2.1, h.jd.c2.2.1⟩
theorem Ta.clo (h : Ta w g g1 s1 A1 n1 c1 tn A2 n2 c2 td p A n c B m d l x a b wx) : Clo (Ta w g g1 s1 A1 n1 c1 tn A2 n2 c2 td p A n c B m d l x a b) wx.heap.size :=
  ⟨fun h hb => h.below hb, fun {y i u v} q hq => by
    have e1 := Nat.lt_of_lt_of_le h.t.lt hq.2
    have e2 := Nat.lt_of_lt_of_le h.jd.lt hq.2
    have e3 := Nat.lt_of_lt_of_le h.T.2 hq.2
    have e4 := Nat.le_trans h.gb.size hq.2
    exact ⟨q.t.grown (gb2 _ _ _ _ _ _) (by omega), q.zn.offbox hq.1 (noInt_zero _ _ _ _) (gb2 _ _ _ _ _ _), q.zd.offbox hq.1 (noInt_zero _ _ _ _) (gb2 _ _ _ _ _ _), q.jn.grown (gb2 _ _ _ _ _ _) (by omega), q.jd.grown (gb2 _ _ _ _ _ _) (by omega), ⟨q.f.num.offbox hq.1 (noInt_zero _ _ _ _) (gb2 _ _ _ _ _ _), q.f.den.offbox hq.1 (noInt_zero _ _ _ _) (gb2 _ _ _ _ _ _), q.f.pq⟩, q.T.grown (gb2 _ _ _ _ _ _) (by omega), gb_far (gb_far q.gb (by omega)) (by omega), q.lt⟩⟩
end
/-- What stands ahead of the last sum. -/
def Tz (w : World) (g g1 K : Nat) (R : Rat) (wx : World) : Prop :=
  ∃ s1 A1 n1 c1 tn A2 n2 c2 td p A n c a, Bk wx g (.cells #[.bool s1, .slice A1 n1 c1, .bool false, .slice A2 n2 c2] 137 (0, 0)) ∧ Zn wx s1 A1 n1 c1 tn ∧ Zn wx false A2 n2 c2 ((td : Nat) : Int) ∧ Bk wx g1 (.cells #[.bool p, .slice A n c] 24 (0, 0)) ∧ Zi wx p A n c a ∧ Pq K R (tn + a) td ∧ Hid (Le 900 tn ∧ Le 900 a) ∧ w.grownBy wx (some g) ∧ g < g1
theorem tot_same {k l : Nat} {r x : Rat} {tn a : Int} {b td : Nat} (h : Pq k r tn td) (q : Pq l x a b) (e : b = td) : Pq (k + l + 1) (r + x) (tn + a) td := by
  subst e; exact h.add_same q
theorem tot_diff {k l : Nat} {r x : Rat} {tn a : Int} {b td G : Nat} (h : Pq k r tn td) (q : Pq l x a b) (hG : G = Nat.gcd b td) :
    Pq (k + l + 1) (r + x) (tn * ((b / G : Nat) : Int) + a * ((td / G : Nat) : Int)) (td * (b / G)) := by
  have h0 : G ≠ 0 := by rw [hG]; exact fun e => q.nz (Nat.eq_zero_of_gcd_eq_zero_left e)
  have d1 : G ∣ b := by rw [hG]; exact Nat.gcd_dvd_left _ _
  have d2 : G ∣ td := by rw [hG]; exact Nat.gcd_dvd_right _ _
  obtain ⟨b', rfl⟩ := d1
  obtain ⟨t', rfl⟩ := d2
  clear hG
  have hG0 : 0 < G := Nat.pos_of_ne_zero h0
  rw [Nat.mul_div_cancel_left _ hG0, Nat.mul_div_cancel_left _ hG0]
  have hb' : b' ≠ 0 := fun e => q.nz (by rw [e, Nat.mul_zero])
  have ht' : t' ≠ 0 := fun e => h.nz (by rw [e, Nat.mul_zero])
  have hs := h.add q
  refine ⟨Nat.mul_ne_zero h.nz hb', ?_, ?_, ?_⟩
  · rw [← hs.eq, Rat.mkRat_eq_iff (Nat.mul_ne_zero h.nz hb') hs.nz]
    simp only [Int.natCast_mul]
    generalize (G : Int) = G'
    generalize (t' : Int) = t
    generalize (b' : Int) = b
    simp only [Int.add_mul]
    congr 1
    · ac_rfl
    · ac_rfl
  · have l1 : Le l ((b' : Nat) : Int) := by
      have := q.lb
      unfold Le at this ⊢
      rw [Int.natAbs_natCast] at this ⊢
      exact Nat.lt_of_le_of_lt (Nat.le_mul_of_pos_left _ hG0) this
    have l2 : Le k ((t' : Nat) : Int) := by
      have := h.lb
      unfold Le at this ⊢
      rw [Int.natAbs_natCast] at this ⊢
      exact Nat.lt_of_le_of_lt (Nat.le_mul_of_pos_left _ hG0) this
    have := (Le.mul q.la l2).mono (show l + k ≤ k + l by omega)
    exact (Le.mul h.la l1).add this
  · have l1 : Le l ((b' : Nat) : Int) := by
      have := q.lb
      unfold Le at this ⊢
      rw [Int.natAbs_natCast] at this ⊢
      exact Nat.lt_of_le_of_lt (Nat.le_mul_of_pos_left _ hG0) this
    exact (Le.mulN h.lb l1).mono (by omega)

end Go.Proofs.YtffipjofefemiaaGreatDoor
