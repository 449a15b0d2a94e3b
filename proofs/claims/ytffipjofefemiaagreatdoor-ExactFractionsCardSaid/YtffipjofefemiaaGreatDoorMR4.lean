/- The reference's DivMod, for all integers of at most 60000 limbs. -/
import Derived.Test.YtffipjofefemiaaGreatDoorMR2
import Derived.Test.YtffipjofefemiaaGreatDoorMK
import Derived.Deep.DeepCutAuto
namespace Go.Proofs.YtffipjofefemiaaGreatDoor
open Go.RowKit Kb

/-- The boxes of DivMod: what came in, and what goes out. -/
structure D4 (w : World) (g : Nat) (s : Bool) (A : Option Addr) (n c : Nat) (x : Int) (t : Bool) (B : Option Addr) (m d : Nat) (y : Int) (wx : World) : Prop where
  a : Ib wx g s A n c x
  b : Ib wx (g + 1) t B m d y
  q : Bk wx (g + 1 + 1) (.cells #[.bool false, .slice none 0 0] 24 (0, 0))
  r : Bk wx (g + 1 + 1 + 1) (.cells #[.bool false, .slice none 0 0] 24 (0, 0))
  bl : Below w.heap.size w wx
section
variable {w wx wy : World} {g n c m d h : Nat} {s t : Bool} {A B : Option Addr} {x y : Int}
theorem D4.below (k : D4 w g s A n c x t B m d y wx) (hb : Below wx.heap.size wx wy) : D4 w g s A n c x t B m d y wy :=
  ⟨k.a.below hb, k.b.below hb, k.q.step hb, k.r.step hb, bthen k.bl hb (Nat.le_refl _)⟩
theorem D4.clo (k : D4 w g s A n c x t B m d y wx) : Clo (D4 w g s A n c x t B m d y) wx.heap.size :=
  ⟨fun h hb => h.below hb, fun {a h u v} h' q => by
    have h1 := k.r.lt
    have h2 := q.2
    have h3 := k.bl.size
    exact ⟨h'.a.off q.1 (noInt_zero _ _ _ _) (by omega), h'.b.off q.1 (noInt_zero _ _ _ _) (by omega), h'.q.grown (gb2 _ _ _ _ _ _) (by omega), h'.r.grown (gb2 _ _ _ _ _ _) (by omega), (h'.bl.setCell (p := ⟨h, 0, none⟩) (by show w.heap.size ≤ h; omega) u).setCell (p := ⟨h, 1, none⟩) (by show w.heap.size ≤ h; omega) v⟩⟩
theorem D4.cells (k : D4 w g s A n c x t B m d y wx) : wx.cell? ⟨g, 0, none⟩ = some (.bool s) ∧ wx.cell? ⟨g, 1, none⟩ = some (.slice A n c) ∧ wx.cell? ⟨g + 1, 0, none⟩ = some (.bool t) ∧ wx.cell? ⟨g + 1, 1, none⟩ = some (.slice B m d) :=
  ⟨k.a.b.c2.1, k.a.b.c2.2.1, k.b.b.c2.1, k.b.b.c2.2.1⟩
end
theorem four_new (w : World) (o1 o2 o3 o4 : Obj) : Bk ((((w.alloc o1).alloc o2).alloc o3).alloc o4) w.heap.size o1 ∧ Bk ((((w.alloc o1).alloc o2).alloc o3).alloc o4) (w.heap.size + 1) o2 ∧ Bk ((((w.alloc o1).alloc o2).alloc o3).alloc o4) (w.heap.size + 1 + 1) o3 ∧ Bk ((((w.alloc o1).alloc o2).alloc o3).alloc o4) (w.heap.size + 1 + 1 + 1) o4 := by
  have h := three_new w o1 o2 o3
  exact ⟨h.1.alloc o4, h.2.1.alloc o4, h.2.2.alloc o4, Bk.of_alloc _ _ (by simp)⟩
/-- Truncated division. -/
def tq (s t : Bool) (x y : Int) : Int := toZ (!(s == t)) (x.natAbs / y.natAbs)
def tr (s : Bool) (x y : Int) : Int := toZ s (x.natAbs % y.natAbs)
theorem rmade_tq (s t : Bool) (v : Value) (x y : Int) (w : World) (hv : Nt w v (x.natAbs / y.natAbs)) (hla : (dig (x.natAbs / y.natAbs)).length ≤ 1000000) :
    Calls Tryz.prog 64 #[.bool (!(s == t)), v] w fun e w' => ∃ r A n c, e = .returned (.agg #[.bool r, .slice A n c]) ∧ Zn w' r A n c (tq s t x y) ∧ Below w.heap.size w w' :=
  rmade (!(s == t)) v (x.natAbs / y.natAbs) w hv hla
theorem rmade_tr (s : Bool) (v : Value) (x y : Int) (w : World) (hv : Nt w v (x.natAbs % y.natAbs)) (hla : (dig (x.natAbs % y.natAbs)).length ≤ 1000000) :
    Calls Tryz.prog 64 #[.bool s, v] w fun e w' => ∃ r A n c, e = .returned (.agg #[.bool r, .slice A n c]) ∧ Zn w' r A n c (tr s x y) ∧ Below w.heap.size w w' :=
  rmade s v (x.natAbs % y.natAbs) w hv hla

theorem dm_end {w wx : World} {g n c m d g8 n8 c8 g9 n9 c9 : Nat} {s t r8 r9 : Bool} {A B A8 A9 : Option Addr} {x y u v : Int} (k : D4 w g s A n c x t B m d y wx) (j : Jb wx g8 r8 A8 n8 c8 u) (j' : Jb wx g9 r9 A9 n9 c9 v) (hg : w.heap.size = g) :
    Zn ((((wx.setCell ⟨g + 1 + 1, 0, none⟩ (.bool r8)).setCell ⟨g + 1 + 1, 1, none⟩ (.slice A8 n8 c8)).setCell ⟨g + 1 + 1 + 1, 0, none⟩ (.bool r9)).setCell ⟨g + 1 + 1 + 1, 1, none⟩ (.slice A9 n9 c9)) r8 A8 n8 c8 u ∧
    Zn ((((wx.setCell ⟨g + 1 + 1, 0, none⟩ (.bool r8)).setCell ⟨g + 1 + 1, 1, none⟩ (.slice A8 n8 c8)).setCell ⟨g + 1 + 1 + 1, 0, none⟩ (.bool r9)).setCell ⟨g + 1 + 1 + 1, 1, none⟩ (.slice A9 n9 c9)) r9 A9 n9 c9 v ∧
    Below w.heap.size w ((((wx.setCell ⟨g + 1 + 1, 0, none⟩ (.bool r8)).setCell ⟨g + 1 + 1, 1, none⟩ (.slice A8 n8 c8)).setCell ⟨g + 1 + 1 + 1, 0, none⟩ (.bool r9)).setCell ⟨g + 1 + 1 + 1, 1, none⟩ (.slice A9 n9 c9)) := by
  have q1 := k.r.grown (gb2 wx (g + 1 + 1) 0 1 (.bool r8) (.slice A8 n8 c8)) (by omega)
  refine ⟨(j.z.offbox k.q (noInt_zero _ _ _ _) (gb2 _ _ _ _ _ _)).offbox q1 (noInt_zero _ _ _ _) (gb2 _ _ _ _ _ _), (j'.z.offbox k.q (noInt_zero _ _ _ _) (gb2 _ _ _ _ _ _)).offbox q1 (noInt_zero _ _ _ _) (gb2 _ _ _ _ _ _), ?_⟩
  exact (((k.bl.setCell (p := ⟨g + 1 + 1, 0, none⟩) (by show w.heap.size ≤ g + 1 + 1; omega) _).setCell (p := ⟨g + 1 + 1, 1, none⟩) (by show w.heap.size ≤ g + 1 + 1; omega) _).setCell (p := ⟨g + 1 + 1 + 1, 0, none⟩) (by show w.heap.size ≤ g + 1 + 1 + 1; omega) _).setCell (p := ⟨g + 1 + 1 + 1, 1, none⟩) (by show w.heap.size ≤ g + 1 + 1 + 1; omega) _
theorem rSignGe {w : World} {s : Bool} {A : Option Addr} {n c : Nat} {x : Int} (h : Zi w s A n c x) (hn : n ≤ 100000) (hx : 0 ≤ x) :
    Calls Tryz.prog 61 #[.agg #[.bool s, .slice A n c]] w fun e w' => ∃ i : Int, e = .returned (.int .i64 i) ∧ 0 ≤ i ∧ Below w.heap.size w w' := by
  refine (rSign h hn).mono ?_
  rintro e w' ⟨rfl, hb⟩
  refine ⟨_, rfl, ?_, hb⟩
  rcases Int.lt_or_eq_of_le hx with h | h
  · rw [Int.sign_eq_one_of_pos h]; decide
  · rw [← h]; decide
theorem rSignLt {w : World} {s : Bool} {A : Option Addr} {n c : Nat} {x : Int} (h : Zi w s A n c x) (hn : n ≤ 100000) (hx : x < 0) :
    Calls Tryz.prog 61 #[.agg #[.bool s, .slice A n c]] w fun e w' => ∃ i : Int, e = .returned (.int .i64 i) ∧ i < 0 ∧ Below w.heap.size w w' := by
  refine (rSign h hn).mono ?_
  rintro e w' ⟨rfl, hb⟩
  exact ⟨_, rfl, by rw [Int.sign_eq_neg_one_of_neg hx]; decide, hb⟩
theorem tr_nonneg {s : Bool} {x y : Int} (h : ¬ (s = true ∧ x.natAbs % y.natAbs ≠ 0)) : 0 ≤ tr s x y := by
  unfold tr toZ
  cases s
  · rw [if_neg (by decide)]; exact Int.natCast_nonneg _
  · have : x.natAbs % y.natAbs = 0 := by
      rcases Nat.eq_zero_or_pos (x.natAbs % y.natAbs) with h1 | h1
      · exact h1
      · exact absurd ⟨rfl, by omega⟩ h
    rw [this]; decide
theorem tr_neg {s : Bool} {x y : Int} (h : s = true ∧ x.natAbs % y.natAbs ≠ 0) : tr s x y < 0 := by
  obtain ⟨rfl, h⟩ := h
  unfold tr toZ
  rw [if_pos rfl]
  omega
theorem tq_le {s t : Bool} {x y : Int} {k : Nat} (hx : Le k x) : Le k (tq s t x y) := by
  unfold tq Le
  rw [natAbs_toZ]
  exact Nat.lt_of_le_of_lt (Nat.div_le_self _ _) hx
theorem tr_le {s : Bool} {x y : Int} {k : Nat} (hx : Le k x) : Le k (tr s x y) := by
  unfold tr Le
  rw [natAbs_toZ]
  exact Nat.lt_of_le_of_lt (Nat.mod_le _ _) hx
theorem Jb.refill {w : World} {h n c n' c' : Nat} {s s' : Bool} {A A' : Option Addr} {z z' : Int} (q : Jb w h s A n c z) (k : Zn w s' A' n' c' z') : Jb ((w.setCell ⟨h, 0, none⟩ (.bool s')).setCell ⟨h, 1, none⟩ (.slice A' n' c')) h s' A' n' c' z' := by
  refine ⟨?_, k.offbox q.b (noInt_zero _ _ _ _) (gb2 _ _ _ _ _ _)⟩
  have q := q.b
  unfold Bk at q ⊢
  simp only [World.setCell, Array.getElem?_modify, q]
  simp
theorem D4.put {w wx : World} {g n c m d h : Nat} {s t : Bool} {A B : Option Addr} {x y : Int} {T : TypeId} {C : Array Value} {u v : Value} (k : D4 w g s A n c x t B m d y wx) (q : Bk wx h (.cells C T (0, 0))) (hC : NoInt C) (hh : g + 1 + 1 + 1 < h) (hs : w.heap.size = g) : D4 w g s A n c x t B m d y ((wx.setCell ⟨h, 0, none⟩ u).setCell ⟨h, 1, none⟩ v) :=
  ⟨k.a.off q hC (by omega), k.b.off q hC (by omega), k.q.grown (gb2 _ _ _ _ _ _) (by omega), k.r.grown (gb2 _ _ _ _ _ _) (by omega), (k.bl.setCell (p := ⟨h, 0, none⟩) (by show w.heap.size ≤ h; omega) u).setCell (p := ⟨h, 1, none⟩) (by show w.heap.size ≤ h; omega) v⟩
theorem le_abs {k : Nat} {y : Int} (h : Le k y) : Le k (y.natAbs : Int) := by
  unfold Le at *
  rwa [Int.natAbs_natCast]
theorem rmade_abs (v : Value) (y : Int) (w : World) (hv : Nt w v y.natAbs) (hla : (dig y.natAbs).length ≤ 1000000) :
    Calls Tryz.prog 64 #[.bool false, v] w fun e w' => ∃ r A n c, e = .returned (.agg #[.bool r, .slice A n c]) ∧ Zn w' r A n c (y.natAbs : Int) ∧ Below w.heap.size w w' := by
  have h := rmade false v y.natAbs w hv hla
  have e : toZ false y.natAbs = (y.natAbs : Int) := by unfold toZ; rw [if_neg (by decide)]
  rwa [e] at h
/-- From truncated to Euclidean division. -/
theorem tdm_nonneg {s t : Bool} {x y : Int} (ex : toZ s x.natAbs = x) (ey : toZ t y.natAbs = y) (h0 : y ≠ 0) (h : ¬ (s = true ∧ x.natAbs % y.natAbs ≠ 0)) : tq s t x y = x / y ∧ tr s x y = x % y := by
  have hm := div_math s t x.natAbs y.natAbs (by omega)
  rw [ex, ey] at hm
  have hbn : (!(s == t)) = (s != t) := by cases s <;> cases t <;> rfl
  unfold tq tr
  rw [hbn]
  cases s
  · exact hm.1 rfl
  · have hz : x.natAbs % y.natAbs = 0 := by
      rcases Nat.eq_zero_or_pos (x.natAbs % y.natAbs) with h1 | h1
      · exact h1
      · exact absurd ⟨rfl, by omega⟩ h
    have := hm.2.1 rfl hz
    refine ⟨this.1, ?_⟩
    rw [← this.2, hz]; rfl
theorem tdm_neg {s t : Bool} {x y : Int} (ex : toZ s x.natAbs = x) (ey : toZ t y.natAbs = y) (h0 : y ≠ 0) (h : s = true ∧ x.natAbs % y.natAbs ≠ 0) : tr s x y + (y.natAbs : Int) = x % y ∧ (t = true → tq s t x y + 1 = x / y) ∧ (t = false → tq s t x y - 1 = x / y) := by
  obtain ⟨rfl, h⟩ := h
  have hm := div_math true t x.natAbs y.natAbs (by omega)
  rw [ex, ey] at hm
  have h2 := hm.2.2 rfl h
  have hlt := Nat.mod_lt x.natAbs (show 0 < y.natAbs by omega)
  unfold tq tr
  refine ⟨?_, fun e => ?_, fun e => ?_⟩
  · rw [← h2.2]
    unfold toZ
    rw [if_pos rfl, if_neg (by decide)]
    omega
  · subst e
    rw [← h2.1]
    unfold toZ
    simp
  · subst e
    rw [← h2.1]
    unfold toZ
    simp
    omega

set_option maxRecDepth 100000 in
set_option maxHeartbeats 80000000 in
theorem rDivMod {w : World} {s t : Bool} {A B : Option Addr} {n c m d : Nat} {x y : Int} (h : Zi w s A n c x) (k : Zi w t B m d y) (hn : n ≤ 60000) (hm : m ≤ 60000) (hx : Le 60000 x) (hy : Le 60000 y) (h0 : y ≠ 0) :
    Calls Tryz.prog 78 #[.agg #[.bool s, .slice A n c], .agg #[.bool t, .slice B m d]] w fun e w' => ∃ r C n c r' C' n' c', e = .returned (.tuple #[.agg #[.bool r, .slice C n c], .agg #[.bool r', .slice C' n' c']]) ∧ Zn w' r C n c (x / y) ∧ Zn w' r' C' n' c' (x % y) ∧ Below w.heap.size w w' := by
  have k4 := four_new w (.cells #[.bool s, .slice A n c] 24) (.cells #[.bool t, .slice B m d] 24) (.cells #[.bool false, .slice none 0 0] 24) (.cells #[.bool false, .slice none 0 0] 24)
  have hal := ((((Below.refl w.heap.size w).alloc (Nat.le_refl _) (.cells #[.bool s, .slice A n c] 24)).alloc (by simp) (.cells #[.bool t, .slice B m d] 24)).alloc (by simp; omega) (.cells #[.bool false, .slice none 0 0] 24)).alloc (by simp; omega) (.cells #[.bool false, .slice none 0 0] 24)
  obtain ⟨g, hg⟩ : ∃ g, w.heap.size = g := ⟨_, rfl⟩
  have HX : Bd 60000 x := ⟨hx⟩
  have HY : Bd 60000 y := ⟨hy⟩
  have H0 := hid h0
  have HL := hid (show (dig x.natAbs).length ≤ 60000 ∧ (dig y.natAbs).length ≤ 60000 ∧ (dig (x.natAbs / y.natAbs)).length ≤ 60000 ∧ (dig (x.natAbs % y.natAbs)).length ≤ 60000 from
    ⟨hx.len, hy.len, Nat.le_trans (dig_length_mono (Nat.div_le_self _ _)) hx.len, Nat.le_trans (dig_length_mono (Nat.mod_le _ _)) hx.len⟩)
  clear hx hy h0
  go_enter Tryz.func78, Tryz.ntmps78
  go_wp2_with fail
  rw [hg] at k4
  generalize hW : (((w.alloc (.cells #[.bool s, .slice A n c] 24)).alloc (.cells #[.bool t, .slice B m d] 24)).alloc (.cells #[.bool false, .slice none 0 0] 24)).alloc (.cells #[.bool false, .slice none 0 0] 24) = W0 at *
  have Hg := hid hg
  have P0 : D4 w g s A n c x t B m d y W0.drew := D4.below ⟨⟨k4.1, h.below hal⟩, ⟨k4.2.1, k.below hal⟩, k4.2.2.1, k4.2.2.2, hal⟩ dr0
  clear hW hg h k k4 hal
  go_region_held3 (fun w' => w'.cell? ⟨g, 0, none⟩ = some (.bool s) ∧ w'.cell? ⟨g, 1, none⟩ = some (.slice A n c) ∧ w'.cell? ⟨g + 1, 0, none⟩ = some (.bool t) ∧ w'.cell? ⟨g + 1, 1, none⟩ = some (.slice B m d)) (first | with_reducible exact P0.cells | with_reducible exact P1.cells | with_reducible exact P2.cells | with_reducible exact P3.cells) (first
    | (go_at_call 63; with_reducible refine (rreadZ P0.a.z (by omega)).mono ?_; rintro e w1 ⟨v1, rfl, hv1, hb1⟩; have P1 := P0.below hb1)
    | (go_at_call 63; with_reducible refine (rreadZ P1.b.z (by omega)).mono ?_; rintro e w2 ⟨v2, rfl, hv2, hb2⟩; have P2 := P1.below hb2; have hv1' := hv1.below hb2)
    | (go_at_call 66; with_reducible refine (rover v1 v2 x.natAbs y.natAbs w2 hv1' hv2 (by have := H0.out; omega) (by have := HL.out; omega) (by have := HL.out; omega)).mono ?_; rintro e w3 ⟨v3, v4, rfl, hv3, hv4, hb3⟩; have P3 := P2.below hb3))
  clear P0 P1 P2 hv1 hv1' hv2 hb1 hb2 hb3
  go_upto_region 2 with fail
  have K := P3.clo
  go_cut [8, 9] (fun s8 s9 wx => Tw (D4 w g s A n c x t B m d y) w3.heap.size (tq s t x y) (tr s x y) s8 s9 wx)
  case first =>
    have HQ : (dig (x.natAbs / y.natAbs)).length ≤ 1000000 := by have := HL.out; omega
    have HR : (dig (x.natAbs % y.natAbs)).length ≤ 1000000 := by have := HL.out; omega
    go_region_held3 (fun w' => w'.cell? ⟨g, 0, none⟩ = some (.bool s) ∧ w'.cell? ⟨g, 1, none⟩ = some (.slice A n c) ∧ w'.cell? ⟨g + 1, 0, none⟩ = some (.bool t) ∧ w'.cell? ⟨g + 1, 1, none⟩ = some (.slice B m d)) (first
      | with_reducible exact D4.cells (K.below P3 dr0)
      | with_reducible exact D4.cells (K.below P3 dr1)
      | with_reducible exact D4.cells (K.below P3 dr2)
      | with_reducible exact D4.cells P31
      | with_reducible exact D4.cells (K.below P31 al1)
      | with_reducible exact D4.cells (K.below P31 al2)
      | with_reducible exact D4.cells P32
      | with_reducible exact D4.cells (K.below P32 al1)
      | with_reducible exact D4.cells (K.below P32 al2)
      | with_reducible exact D4.cells (K.set P32 qa)
      | with_reducible exact D4.cells (K.set P32 qb)
      | with_reducible exact D4.cells (K.below (K.set P32 qa) al1)
      | with_reducible exact D4.cells (K.set (K.set P32 qa) (qb.set nba _ _))
      | with_reducible exact D4.cells (K.set (K.set P32 qb) (qa.set nab _ _))) (first
      | (go_at_call 64; (first | with_reducible refine (rmade_tq s t v3 x y _ (hv3.below dr0) HQ).mono ?_ | with_reducible refine (rmade_tq s t v3 x y _ (hv3.below dr1) HQ).mono ?_ | with_reducible refine (rmade_tq s t v3 x y _ (hv3.below dr2) HQ).mono ?_); rintro e w31 ⟨r5, C5, n5, c5, rfl, h5, hb1⟩; (first | (have H := sd2 (Nat.le_refl _) hb1; obtain ⟨hc1, qa, qb⟩ := H; have nab := (Nat.ne_of_lt (Nat.lt_succ_self w3.heap.size)); have nba := fun e => nab (Eq.symm e)) | (have H := sd1 (Nat.le_refl _) hb1; obtain ⟨hc1, qa⟩ := H) | (have hc1 := sd0 hb1)); have P31 := K.below P3 hc1; have hN1 := hc1.size; replace hv4 := hv4.below hc1)
      | (go_at_call 64; (first | with_reducible refine (rmade_tr s v4 x y _ hv4 HR).mono ?_ | with_reducible refine (rmade_tr s v4 x y _ (hv4.below al1) HR).mono ?_ | with_reducible refine (rmade_tr s v4 x y _ (hv4.below al2) HR).mono ?_); rintro e w32 ⟨r6, C6, n6, c6, rfl, h6, hb2⟩; (first | (have H := se2 hN1 hb2; obtain ⟨hc2, qa, qb⟩ := H; have nab := (Nat.ne_of_lt (Nat.lt_succ_self w31.heap.size)); have nba := fun e => nab (Eq.symm e)) | (have H := se1 hN1 hb2; obtain ⟨hc2, q⟩ := H; (first | (have nab := Nat.ne_of_lt qa.lt; have nba := fun e => nab (Eq.symm e); have qb := q; replace qa := qa.step hc2) | have qa := q)) | (have hc2 := hb2; (try replace qa := qa.step hc2); (try replace qb := qb.step hc2))); have P32 := K.below P31 hc2; have hN2 := Nat.le_trans hN1 hc2.size; replace h5 := h5.below hc2; (try have lqa := qa.lt); (try obtain ⟨_, _, _, _⟩ := qa.1.c2); (try have lqb := qb.lt); (try obtain ⟨_, _, _, _⟩ := qb.1.c2)))
    all_goals
      (try clear lqa)
      (try clear lqb)
      go_wp2_with fail
      go_meet
      first
        | with_reducible exact tw1 K P32 h5 h6 hN2
        | with_reducible exact tw2 K P32 h5 h6 hN2
        | with_reducible exact tw3 K P32 h5 h6 qa hN2
        | with_reducible exact tw4 K P32 h5 h6 qa hN2
        | with_reducible exact tw5 K P32 h5 h6 qa qb nab
        | with_reducible exact tw5 K P32 h5 h6 qb qa nba
  case rest =>
    obtain ⟨g8, r8, A8, n8, c8, g9, r9, A9, n9, c9, rfl, rfl, hN8, hN9, h89, j8, j9, hP⟩ := hcut
    have HN := hid (show g + 1 + 1 + 1 < g8 ∧ g + 1 + 1 + 1 < g9 ∧ g8 ≠ g9 ∧ w.heap.size = g from ⟨Nat.lt_of_lt_of_le P3.r.lt hN8, Nat.lt_of_lt_of_le P3.r.lt hN9, h89, Hg.out⟩)
    clear P3 K hv3 hv4 hN8 hN9 h89
    rename World => wc
    have EX := hid hP.a.z.eq
    have EY := hid hP.b.z.eq
    have hlen := j9.z.len ((tr_le (s := s) (y := y) HX.out).mono (show 60000 ≤ 100000 by decide))
    obtain ⟨x0, x1, -, -⟩ := j9.b.c2
    by_cases hneg : s = true ∧ x.natAbs % y.natAbs ≠ 0
    · have hE := hid (tdm_neg EX.out EY.out H0.out hneg)
      have L9 : Bd 100000 (tr s x y) := ⟨(tr_le HX.out).mono (by decide)⟩
      have L8 : Bd 100000 (tq s t x y) := ⟨(tq_le HX.out).mono (by decide)⟩
      have LY : Bd 100000 (y.natAbs : Int) := ⟨(le_abs HY.out).mono (by decide)⟩
      have L1 : Bd 100000 1 := ⟨Le.one (by decide)⟩
      have hl8 := j8.z.len L8.out
      have hlm : m ≤ 100000 := by omega
      have Hsg := hid (rSignLt j9.z.zi hlen (tr_neg hneg))
      clear hneg
      go_wp2_with fail
      refine Hsg.out.mono ?_
      rintro e w4 ⟨i, rfl, hi0, hb4⟩
      have J8 := j8.below hb4
      have J9 := j9.below hb4
      have P4 := hP.below hb4
      clear hb4 j8 j9 hP x0 x1 Hsg
      go_wp2
      go_cut [8, 9] (fun s8 s9 wx => s8 = .pointer (some ⟨g8, 0, none⟩) ∧ s9 = .pointer (some ⟨g9, 0, none⟩) ∧ ∃ r A' n' c', Jb wx g9 r A' n' c' (x % y) ∧ Jb wx g8 r8 A8 n8 c8 (tq s t x y) ∧ D4 w g s A n c x t B m d y wx)
      case first =>
        have I8 := J8.below dr0
        have I9 := J9.below dr0
        have Q4 := P4.below dr0
        have HYL : (dig y.natAbs).length ≤ 1000000 := by have := HL.out; omega
        obtain ⟨t0, t1, -, -⟩ := I9.b.c2
        obtain ⟨t2, t3, -, -⟩ := Q4.b.b.c2
        go_region_with (first
          | (go_at_call 63; with_reducible refine (rreadZ Q4.b.z hlm).mono ?_; rintro e w5 ⟨v5, rfl, hv5, hb5⟩; have I5 := I9.below hb5; obtain ⟨t4, t5, -, -⟩ := I5.b.c2)
          | (go_at_call 64; with_reducible refine (rmade_abs v5 y _ hv5 HYL).mono ?_; rintro e w6 ⟨r5, C5, n5, c5, rfl, h5, hb6⟩; have I6 := I5.below hb6; obtain ⟨t6, t7, -, -⟩ := I6.b.c2; have hl5 := h5.len LY.out)
          | (go_at_call 69; with_reducible refine (rAdd I6.z.zi h5.zi hlen hl5 L9.out LY.out).mono ?_; rintro e w7 ⟨r6, C6, n6, c6, rfl, h6, hb7⟩; have I7 := I6.below hb7; obtain ⟨_, _, _, _⟩ := I7.b.c2))
        all_goals
          rw [hE.out.1] at h6
          have R := hid (((I8.below hb5).below hb6).below hb7)
          have Q7 := hid (((Q4.below hb5).below hb6).below hb7)
          clear Q4 I8 I9 I5 I6 t0 t1 t2 t3 t4 t5 t6 t7 J8 J9 P4 hv5 h5
          go_wp2_with fail
          go_meet
          exact ⟨rfl, rfl, r6, C6, n6, c6, I7.refill h6, R.out.off I7.b (noInt_zero _ _ _ _) HN.out.2.2.1, Q7.out.put I7.b (noInt_zero _ _ _ _) HN.out.2.1 HN.out.2.2.2⟩
      case rest =>
        obtain ⟨rfl, rfl, ra, Aa, na, ca, k9, k8, hQ⟩ := hcut
        clear J8 J9 P4
        rename World => wb
        obtain ⟨x0, x1, -, -⟩ := hQ.b.b.c2
        obtain ⟨x2, x3, -, -⟩ := k8.b.c2
        have J8 := k8.below dr0
        have J9 := k9.below dr0
        have Q4 := hQ.below dr0
        obtain ⟨x4, x5, -, -⟩ := J8.b.c2
        cases t
        · have E6 := hid (hE.out.2.2 rfl)
          clear hE
          go_wp2
          go_region_with (first
            | (go_at_call 15; with_reducible refine (rOf 1 wb.drew (by decide) (by decide)).mono ?_; rintro e w8 ⟨r5, C5, n5, c5, rfl, h5, hb8⟩; have Q8 := Q4.below hb8; have I8 := J8.below hb8; have I9 := J9.below hb8; obtain ⟨t0, t1, -, -⟩ := I8.b.c2; have hl5 := h5.len (Le.one (show 0 < 100000 by decide)))
            | (go_at_call 118; with_reducible refine (rSub I8.z.zi h5.zi hl8 hl5 L8.out L1.out).mono ?_; rintro e w9 ⟨r6, C6, n6, c6, rfl, h6, hb9⟩; have Q9 := Q8.below hb9; have M8 := I8.below hb9; have M9 := I9.below hb9; obtain ⟨_, _, _, _⟩ := M8.b.c2))
          all_goals
            rw [E6.out] at h6
            have K8 := M8.refill h6
            have K9 := M9.off (u := .bool r6) (v := .slice C6 n6 c6) M8.b (noInt_zero _ _ _ _) (fun e => HN.out.2.2.1 e.symm)
            have P6 := Q9.put (u := .bool r6) (v := .slice C6 n6 c6) M8.b (noInt_zero _ _ _ _) HN.out.1 HN.out.2.2.2
            clear Q4 Q8 Q9 M8 M9 I8 I9 J8 J9 h5 h6 hb8 hb9
            obtain ⟨s0, s1, -, -⟩ := K8.b.c2
            obtain ⟨s2, s3, -, -⟩ := K9.b.c2
            obtain ⟨z4, z5, z6, z7⟩ := P6.q.c2
            obtain ⟨z8, z9, z10, z11⟩ := P6.r.c2
            have N8 : g8 ≠ g + 1 + 1 ∧ g8 ≠ g + 1 + 1 + 1 := by have := HN.out; omega
            have N9 : g9 ≠ g + 1 + 1 ∧ g9 ≠ g + 1 + 1 + 1 := by have := HN.out; omega
            go_wp2
            go_region
            have F := hid (dm_end P6 K8 K9 HN.out.2.2.2)
            clear P6 K8 K9
            go_wp2
            exact bodyPost_ret (v := .tuple #[.agg #[.bool r6, .slice C6 n6 c6], .agg #[.bool ra, .slice Aa na ca]]) (by simp [results, Tryz.results78, go_sem, z4, z5, z8, z9]) rfl ⟨r6, C6, n6, c6, ra, Aa, na, ca, rfl, F.out.1.below dr0, F.out.2.1.below dr0, bthen F.out.2.2 dr0 (Nat.le_refl _)⟩
        · have E6 := hid (hE.out.2.1 rfl)
          clear hE
          go_wp2
          go_region_with (first
            | (go_at_call 15; with_reducible refine (rOf 1 wb.drew (by decide) (by decide)).mono ?_; rintro e w8 ⟨r5, C5, n5, c5, rfl, h5, hb8⟩; have Q8 := Q4.below hb8; have I8 := J8.below hb8; have I9 := J9.below hb8; obtain ⟨t0, t1, -, -⟩ := I8.b.c2; have hl5 := h5.len (Le.one (show 0 < 100000 by decide)))
            | (go_at_call 69; with_reducible refine (rAdd I8.z.zi h5.zi hl8 hl5 L8.out L1.out).mono ?_; rintro e w9 ⟨r6, C6, n6, c6, rfl, h6, hb9⟩; have Q9 := Q8.below hb9; have M8 := I8.below hb9; have M9 := I9.below hb9; obtain ⟨_, _, _, _⟩ := M8.b.c2))
          all_goals
            rw [E6.out] at h6
            have K8 := M8.refill h6
            have K9 := M9.off (u := .bool r6) (v := .slice C6 n6 c6) M8.b (noInt_zero _ _ _ _) (fun e => HN.out.2.2.1 e.symm)
            have P6 := Q9.put (u := .bool r6) (v := .slice C6 n6 c6) M8.b (noInt_zero _ _ _ _) HN.out.1 HN.out.2.2.2
            clear Q4 Q8 Q9 M8 M9 I8 I9 J8 J9 h5 h6 hb8 hb9
            obtain ⟨s0, s1, -, -⟩ := K8.b.c2
            obtain ⟨s2, s3, -, -⟩ := K9.b.c2
            obtain ⟨z4, z5, z6, z7⟩ := P6.q.c2
            obtain ⟨z8, z9, z10, z11⟩ := P6.r.c2
            have N8 : g8 ≠ g + 1 + 1 ∧ g8 ≠ g + 1 + 1 + 1 := by have := HN.out; omega
            have N9 : g9 ≠ g + 1 + 1 ∧ g9 ≠ g + 1 + 1 + 1 := by have := HN.out; omega
            go_wp2
            go_region
            have F := hid (dm_end P6 K8 K9 HN.out.2.2.2)
            clear P6 K8 K9
            go_wp2
            exact bodyPost_ret (v := .tuple #[.agg #[.bool r6, .slice C6 n6 c6], .agg #[.bool ra, .slice Aa na ca]]) (by simp [results, Tryz.results78, go_sem, z4, z5, z8, z9]) rfl ⟨r6, C6, n6, c6, ra, Aa, na, ca, rfl, F.out.1.below dr0, F.out.2.1.below dr0, bthen F.out.2.2 dr0 (Nat.le_refl _)⟩
    · have hE := hid (tdm_nonneg EX.out EY.out H0.out hneg)
      have Hsg := hid (rSignGe j9.z.zi hlen (tr_nonneg hneg))
      clear hneg hlen
      go_wp2_with fail
      refine Hsg.out.mono ?_
      rintro e w4 ⟨i, rfl, hi0, hb4⟩
      have J8 := j8.below hb4
      have J9 := j9.below hb4
      have P4 := hP.below hb4
      obtain ⟨y0, y1, -, -⟩ := J8.b.c2
      obtain ⟨y2, y3, -, -⟩ := J9.b.c2
      obtain ⟨y4, y5, y6, y7⟩ := P4.q.c2
      obtain ⟨y8, y9, y10, y11⟩ := P4.r.c2
      clear hb4 j8 j9 hP x0 x1 HX HY
      have N8 : g8 ≠ g + 1 + 1 ∧ g8 ≠ g + 1 + 1 + 1 := by have := HN.out; omega
      have N9 : g9 ≠ g + 1 + 1 ∧ g9 ≠ g + 1 + 1 + 1 := by have := HN.out; omega
      go_wp2
      go_region
      have F := hid (dm_end P4 J8 J9 HN.out.2.2.2)
      clear P4 J8 J9
      go_wp2
      exact bodyPost_ret (v := .tuple #[.agg #[.bool r8, .slice A8 n8 c8], .agg #[.bool r9, .slice A9 n9 c9]]) (by simp [results, Tryz.results78, go_sem, y4, y5, y8, y9]) rfl ⟨r8, A8, n8, c8, r9, A9, n9, c9, rfl, by rw [← hE.out.1]; exact F.out.1.below dr0, by rw [← hE.out.2]; exact F.out.2.1.below dr0, bthen F.out.2.2 dr0 (Nat.le_refl _)⟩

end Go.Proofs.YtffipjofefemiaaGreatDoor
