/- The reference's DivMod, for all integers of at most 60000 limbs. -/
import Derived.Test.YtgdclneolgmggaaGreatDoorMR2
import Derived.Test.YtgdclneolgmggaaGreatDoorMK
import Derived.Deep.DeepCutAuto
namespace Go.Proofs.YtgdclneolgmggaaGreatDoor
open Go.RowKit Kb

/-- The boxes of DivMod: what came in, and what goes out. -/
structure D4 (w : World) (g : Nat) (s : Bool) (A : Option Addr) (n c : Nat) (x : Int) (t : Bool) (B : Option Addr) (m d : Nat) (y : Int) (wx : World) : Prop where
  a : Ib wx g s A n c x
  b : Ib wx (g + 1) t B m d y
  q : Bk wx (g + 1 + 1) (.cells #[.bool false, .slice none 0 0] 24 (0, 0))
  r : Bk wx (g + 1 + 1 + 1) (.cells #[.bool false, .slice none 0 0] 24 (0, 0))
  bl : Below w.heap.size w wx
section
variable {w wx wy : World} {g n c m d h : Nat} {s t : Bool} {A B : Option Addr} {x y : Int}
theorem D4.below (k : D4 w g s A n c x t B m d y wx) (hb : Below wx.heap.size wx wy) : D4 w g s A n c x t B m d y wy :=
  ⟨k.a.below hb, k.b.below hb, k.q.step hb, k.r.step hb, bthen k.bl hb (Nat.le_refl _)⟩
theorem D4.clo (k : D4 w g s A n c x t B m d y wx) : Clo (D4 w g s A n c x t B m d y) wx.heap.size :=
  ⟨fun h hb => h.below hb, fun {a h u v} h' q => by
    have h1 := k.r.lt
    have h2 := q.2
    have h3 := k.bl.size
    exact ⟨h'.a.off q.1 (noInt_zero _ _ _ _) (by omega), h'.b.off q.1 (noInt_zero _ _ _ _) (by omega), h'.q.grown (gb2 _ _ _ _ _ _) (by omega), h'.r.grown (gb2 _ _ _ _ _ _) (by omega), (h'.bl.setCell (p := ⟨h, 0, none⟩) (by show w.heap.size ≤ h; omega) u).setCell (p := ⟨h, 1, none⟩) (by show w.heap.size ≤ h; omega) v⟩⟩
theorem D4.cells (k : D4 w g s A n c x t B m d y wx) : wx.cell? ⟨g, 0, none⟩ = some (.bool s) ∧ wx.cell? ⟨g, 1, none⟩ = some (.slice A n c) ∧ wx.cell? ⟨g + 1, 0, none⟩ = some (.bool t) ∧ wx.cell? ⟨g + 1, 1, none⟩ = some (.slice B m d) :=
  ⟨k.a.b.c2.1, k.a.b.c2.2.1, k.b.b.c2.1, k.b.b.c2.2.1⟩
end
theorem four_new (w : World) (o1 o2 o3 o4 : Obj) : Bk ((((w.alloc o1).alloc o2).alloc o3).alloc o4) w.heap.size o1 ∧ Bk ((((w.alloc o1).alloc o2).alloc o3).alloc o4) (w.heap.size + 1) o2 ∧ Bk ((((w.alloc o1).alloc o2).alloc o3).alloc o4) (w.heap.size + 1 + 1) o3 ∧ Bk ((((w.alloc o1).alloc o2).alloc o3).alloc o4) (w.heap.size + 1 + 1 + 1) o4 := by
  have h := three_new w o1 o2 o3
  exact ⟨h.1.alloc o4, h.2.1.alloc o4, h.2.2.alloc o4, Bk.of_alloc _ _ (by simp)⟩
/-- Truncated division. -/
def tq (s t : Bool) (x y : Int) : Int := toZ (!(s == t)) (x.natAbs / y.natAbs)
def tr (s : Bool) (x y : Int) : Int := toZ s (x.natAbs % y.natAbs)
theorem rmade_tq (s t : Bool) (v : Value) (x y : Int) (w : World) (hv : Nt w v (x.natAbs / y.natAbs)) (hla : (dig (x.natAbs / y.natAbs)).length ≤ 1000000) :
    Calls Tryz.prog 49 #[.bool (!(s == t)), v] w fun e w' => ∃ r A n c, e = .returned (.agg #[.bool r, .slice A n c]) ∧ Zn w' r A n c (tq s t x y) ∧ Below w.heap.size w w' :=
  rmade (!(s == t)) v (x.natAbs / y.natAbs) w hv hla
theorem rmade_tr (s : Bool) (v : Value) (x y : Int) (w : World) (hv : Nt w v (x.natAbs % y.natAbs)) (hla : (dig (x.natAbs % y.natAbs)).length ≤ 1000000) :
    Calls Tryz.prog 49 #[.bool s, v] w fun e w' => ∃ r A n c, e = .returned (.agg #[.bool r, .slice A n c]) ∧ Zn w' r A n c (tr s x y) ∧ Below w.heap.size w w' :=
  rmade s v (x.natAbs % y.natAbs) w hv hla

theorem dm_end {w wx : World} {g n c m d g8 n8 c8 g9 n9 c9 : Nat} {s t r8 r9 : Bool} {A B A8 A9 : Option Addr} {x y u v : Int} (k : D4 w g s A n c x t B m d y wx) (j : Jb wx g8 r8 A8 n8 c8 u) (j' : Jb wx g9 r9 A9 n9 c9 v) (hg : w.heap.size = g) :
    Zn ((((wx.setCell ⟨g + 1 + 1, 0, none⟩ (.bool r8)).setCell ⟨g + 1 + 1, 1, none⟩ (.slice A8 n8 c8)).setCell ⟨g + 1 + 1 + 1, 0, none⟩ (.bool r9)).setCell ⟨g + 1 + 1 + 1, 1, none⟩ (.slice A9 n9 c9)) r8 A8 n8 c8 u ∧
    Zn ((((wx.setCell ⟨g + 1 + 1, 0, none⟩ (.bool r8)).setCell ⟨g + 1 + 1, 1, none⟩ (.slice A8 n8 c8)).setCell ⟨g + 1 + 1 + 1, 0, none⟩ (.bool r9)).setCell ⟨g + 1 + 1 + 1, 1, none⟩ (.slice A9 n9 c9)) r9 A9 n9 c9 v ∧
    Below w.heap.size w ((((wx.setCell ⟨g + 1 + 1, 0, none⟩ (.bool r8)).setCell ⟨g + 1 + 1, 1, none⟩ (.slice A8 n8 c8)).setCell ⟨g + 1 + 1 + 1, 0, none⟩ (.bool r9)).setCell ⟨g + 1 + 1 + 1, 1, none⟩ (.slice A9 n9 c9)) := by
  have q1 := k.r.grown (gb2 wx (g + 1 + 1) 0 1 (.bool r8) (.slice A8 n8 c8)) (by omega)
  refine ⟨(j.z.offbox k.q (noInt_zero _ _ _ _) (gb2 _ _ _ _ _ _)).offbox q1 (noInt_zero _ _ _ _) (gb2 _ _ _ _ _ _), (j'.z.offbox k.q (noInt_zero _ _ _ _) (gb2 _ _ _ _ _ _)).offbox q1 (noInt_zero _ _ _ _) (gb2 _ _ _ _ _ _), ?_⟩
  exact (((k.bl.setCell (p := ⟨g + 1 + 1, 0, none⟩) (by show w.heap.size ≤ g + 1 + 1; omega) _).setCell (p := ⟨g + 1 + 1, 1, none⟩) (by show w.heap.size ≤ g + 1 + 1; omega) _).setCell (p := ⟨g + 1 + 1 + 1, 0, none⟩) (by show w.heap.size ≤ g + 1 + 1 + 1; omega) _).setCell (p := ⟨g + 1 + 1 + 1, 1, none⟩) (by show w.heap.size ≤ g + 1 + 1 + 1; omega) _
theorem rSignGe {w : World} {s : Bool} {A : Option Addr} {n c : Nat} {x : Int} (h : Zi w s A n c x) (hn : n ≤ 100000) (hx : 0 ≤ x) :
    Calls Tryz.prog 128 #[.agg #[.bool s, .slice A n c]] w fun e w' => ∃ i : Int, e = .returned (.int .i64 i) ∧ 0 ≤ i ∧ Below w.heap.size w w' := by
  refine (rSign h hn).mono ?_
  rintro e w' ⟨rfl, hb⟩
  refine ⟨_, rfl, ?_, hb⟩
  rcases Int.lt_or_eq_of_le hx with h | h
  · rw [Int.sign_eq_one_of_pos h]; decide
  · rw [← h]; decide
theorem rSignLt {w : World} {s : Bool} {A : Option Addr} {n c : Nat} {x : Int} (h : Zi w s A n c x) (hn : n ≤ 100000) (hx : x < 0) :
    Calls Tryz.prog 128 #[.agg #[.bool s, .slice A n c]] w fun e w' => ∃ i : Int, e = .returned (.int .i64 i) ∧ i < 0 ∧ Below w.heap.size w w' := by
  refine (rSign h hn).mono ?_
  rintro e w' ⟨rfl, hb⟩
  exact ⟨_, rfl, by rw [Int.sign_eq_neg_one_of_neg hx]; decide, hb⟩
theorem tr_nonneg {s : Bool} {x y : Int} (h : ¬ (s = true ∧ x.natAbs % y.natAbs ≠ 0)) : 0 ≤ tr s x y := by
  unfold tr toZ
  cases s
  · rw [if_neg (by decide)]; exact Int.natCast_nonneg _
  · have : x.natAbs % y.natAbs = 0 := by
      rcases Nat.eq_zero_or_pos (x.natAbs % y.natAbs) with h1 | h1
      · exact h1
      · exact absurd ⟨rfl, by omega⟩ h
    rw [this]; decide
theorem tr_neg {s : Bool} {x y : Int} (h : s = true ∧ x.natAbs % y.natAbs ≠ 0) : tr s x y < 0 := by
  obtain ⟨rfl, h⟩ := h
  unfold tr toZ
  rw [if_pos rfl]
  omega
theorem tq_le {s t : Bool} {x y : Int} {k : Nat} (hx : Le k x) : Le k (tq s t x y) := by
  unfold tq Le
  rw [natAbs_toZ]
  exact Nat.lt_of_le_of_lt (Nat.div_le_self _ _) hx
theorem tr_le {s : Bool} {x y : Int} {k : Nat} (hx : Le k x) : Le k (tr s x y) := by
  unfold tr Le
  rw [natAbs_toZ]
  exact Nat.lt_of_le_of_lt (Nat.mod_le _ _) hx
theorem Jb.refill {w : World} {h n c n' c' : Nat} {s s' : Bool} {A A' : Option Addr} {z z' : Int} (q : Jb w h s A n c z) (k : Zn w s' A' n' c' z') : Jb ((w.setCell ⟨h, 0, none⟩ (.bool s')).setCell ⟨h, 1, none⟩ (.slice A' n' c')) h s' A' n' c' z' := by
  refine ⟨?_, k.offbox q.b (noInt_zero _ _ _ _) (gb2 _ _ _ _ _ _)⟩
  have q := q.b
  unfold Bk at q ⊢
  simp only [World.setCell, Array.getElem?_modify, q]
  simp
theorem D4.put {w wx : World} {g n c m d h : Nat} {s t : Bool} {A B : Option Addr} {x y : Int} {T : TypeId} {C : Array Value} {u v : Value} (k : D4 w g s A n c x t B m d y wx) (q : Bk wx h (.cells C T (0, 0))) (hC : NoInt C) (hh : g + 1 + 1 + 1 < h) (hs : w.heap.size = g) : D4 w g s A n c x t B m d y ((wx.setCell ⟨h, 0, none⟩ u).setCell ⟨h, 1, none⟩ v) :=
  ⟨k.a.off q hC (by omega), k.b.off q hC (by omega), k.q.grown (gb2 _ _ _ _ _ _) (by omega), k.r.grown (gb2 _ _ _ _ _ _) (by omega), (k.bl.setCell (p := ⟨h, 0, none⟩) (by show w.heap.size ≤ h; omega) u).setCell (p := ⟨h, 1, none⟩) (by show w.heap.size ≤ h; omega) v⟩
theorem le_abs {k : Nat} {y : Int} (h : Le k y) : Le k (y.natAbs : Int) := by
  unfold Le at *
  rwa [Int.natAbs_natCast]
theorem rmade_abs (v : Value) (y : Int) (w : World) (hv : Nt w v y.natAbs) (hla : (dig y.natAbs).length ≤ 1000000) :
    Calls Tryz.prog 49 #[.bool false, v] w fun e w' => ∃ r A n c, e = .returned (.agg #[.bool r, .slice A n c]) ∧ Zn w' r A n c (y.natAbs : Int) ∧ Below w.heap.size w w' := by
  have h := rmade false v y.natAbs w hv hla
  have e : toZ false y.natAbs = (y.natAbs : Int) := by unfold toZ; rw [if_neg (by decide)]
  rwa [e] at h
/-- From truncated to Euclidean division. -/
theorem tdm_nonneg {s t : Bool} {x y : Int} (ex : toZ s x.natAbs = x) (ey : toZ t y.natAbs = y) (h0 : y ≠ 0) (h : ¬ (s = true ∧ x.natAbs % y.natAbs ≠ 0)) : tq s t x y = x / y ∧ tr s x y = x % y := by
  have hm := div_math s t x.natAbs y.natAbs (by omega)
  rw [ex, ey] at hm
  have hbn : (!(s == t)) = (s != t) := by cases s <;> cases t <;> rfl
  unfold tq tr
  rw [hbn]
  cases s
  · exact hm.1 rfl
  · have hz : x.natAbs % y.natAbs = 0 := by
      rcases Nat.eq_zero_or_pos (x.natAbs % y.natAbs) with h1 | h1
      · exact h1
      · exact absurd ⟨rfl, by omega⟩ h
    have := hm.2.1 rfl hz
    refine ⟨this.1, ?_⟩
    rw [← this.2, hz]; rfl
theorem tdm_neg {s t : Bool} {x y : Int} (ex : toZ s x.natAbs = x) (ey : toZ t y.natAbs = y) (h0 : y ≠ 0) (h : s = true ∧ x.natAbs % y.natAbs ≠ 0) : tr s x y + (y.natAbs : Int) = x % y ∧ (t = true → tq s t x y + 1 = x / y) ∧ (t = false → tq s t x y - 1 = x / y) := by
  obtain ⟨rfl, h⟩ := h
  have hm := div_math true t x.natAbs y.natAbs (by omega)
  rw [ex, ey] at hm
  have h2 := hm.2.2 rfl h
  have hlt := Nat.mod_lt x.natAbs (show 0 < y.natAbs by omega)
  unfold tq tr
  refine ⟨?_, fun e => ?_, fun e => ?_⟩
  · rw [← h2.2]
    unfold toZ
    rw [if_pos rfl, if_neg (by decide)]
    omega
  · subst e
    rw [← h2.1]
    unfold toZ
    simp
  · subst e
    rw [← h2.1]
    unfold toZ
    simp
    omega

end Go.Proofs.YtgdclneolgmggaaGreatDoor
