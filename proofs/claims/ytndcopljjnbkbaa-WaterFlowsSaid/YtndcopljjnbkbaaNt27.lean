/- Networks: Copy of the reference. For every state with a basin and a link. -/
import Derived.Test.YtndcopljjnbkbaaNt26
import Derived.Test.YtndcopljjnbkbaaNt10
import Derived.Deep.RegionLawGrows
import Derived.Deep.AppendLies
namespace Go.Proofs.Ytndcopljjnbkbaa
open Go.RowKit Go.Maps Kb Wb

/-- Truth values as cells. -/
def bools (Y : Nat → Bool) (n : Nat) : List Value := (List.range n).map fun i => .bool (Y i)
theorem bools_len (Y : Nat → Bool) (n : Nat) : (bools Y n).length = n := by simp [bools]
theorem bools_get (Y : Nat → Bool) {n i : Nat} (h : i < n) : (bools Y n)[i]? = some (.bool (Y i)) := by simp [bools, h]
theorem ints_one (X : Nat → Int) (n : Nat) : ∀ u ∈ ints X n, u.oneCell' = true := fun u hu => by
  unfold ints at hu
  obtain ⟨i, _, rfl⟩ := List.mem_map.1 hu
  rfl
theorem bools_one (X : Nat → Bool) (n : Nat) : ∀ u ∈ bools X n, u.oneCell' = true := fun u hu => by
  unfold bools at hu
  obtain ⟨i, _, rfl⟩ := List.mem_map.1 hu
  rfl
theorem ints_src {w : World} {B : Nat} {W : Wd} {ad : Addr} (h : Wt w B W) (hA : W.A = some ad) : ∀ j u, (ints W.X W.n)[j]? = some u → w.cell? (ad.add j) = some u := fun j u hu => by
  have hj : j < W.n := by have := (List.getElem?_eq_some_iff.1 hu).1; rwa [ints_len] at this
  rw [ints_get _ hj] at hu
  obtain ⟨ad', e, _, hc⟩ := h.x j hj
  rw [hA] at e
  injection e with e
  subst e
  rw [hc]; exact hu
theorem bools_src {w : World} {B : Nat} {W : Wd} {ad : Addr} (h : Wt w B W) (hA : W.M = some ad) : ∀ j u, (bools W.Y W.m)[j]? = some u → w.cell? (ad.add j) = some u := fun j u hu => by
  have hj : j < W.m := by have := (List.getElem?_eq_some_iff.1 hu).1; rwa [bools_len] at this
  rw [bools_get _ hj] at hu
  obtain ⟨ad', e, _, hc⟩ := h.y j hj
  rw [hA] at e
  injection e with e
  subst e
  rw [hc]; exact hu
theorem own_empty {w : World} {k base : Nat} {T : TypeId} (h : Bk w k (.cells #[] T (0, 0))) (hb : base ≤ k) : w.ownsRow base T 1 (.slice (some ⟨k, 0, none⟩) 0 0) 0 [] :=
  ⟨rfl, .inr ⟨k, 0, #[], rfl, hb, h, Nat.le_refl _, Nat.zero_le _, rfl, rfl⟩⟩
theorem bk_drew {w : World} {g : Nat} {o : Obj} (h : Bk w g o) : Bk w.drew g o := h
theorem lies_below {W0 w w' : World} {B k : Nat} {r : Option Nat} (h : Below B W0 w) (hg : w.grownBy w' r) (hr : r = some k) (hk : B ≤ k) (hB : B ≤ w.heap.size) : Below B W0 w' :=
  h.grown hg hB (fun j e => by rw [hr] at e; injection e with e; omega)
theorem bk_lies {w w' : World} {g k : Nat} {o : Obj} {r : Option Nat} (h : Bk w g o) (hg : w.grownBy w' r) (hr : r = some k) (hne : g ≠ k) : Bk w' g o := by subst hr; exact Bk_grown h hg hne
theorem own_lies {w w' : World} {base : Nat} {e : TypeId} {g n m cap k : Nat} {xs : List Value} {r : Option Nat} (h : w.ownsRow base e 1 (.slice (some ⟨g, 0, none⟩) n cap) m xs) (hg : w.grownBy w' r) (hr : r = some k) (hne : g ≠ k) : w'.ownsRow base e 1 (.slice (some ⟨g, 0, none⟩) n cap) m xs := by
  subst hr
  exact h.kept hg (by simp [Value.ownBlock]; exact hne)
theorem bset3 {W0 w : World} {g B : Nat} {u0 u1 u2 : Value} (hM : Below B W0 w) (hg : B ≤ g) : Below B W0 (((w.setCell ⟨g, 0, none⟩ u0).setCell ⟨g, 1, none⟩ u1).setCell ⟨g, 2, none⟩ u2) := ((hM.setCell (p := ⟨g, 0, none⟩) hg u0).setCell (p := ⟨g, 1, none⟩) hg u1).setCell (p := ⟨g, 2, none⟩) hg u2
theorem bk_set {w : World} {g k i : Nat} {o : Obj} {v : Value} (h : Bk w g o) (hne : g ≠ k) : Bk (w.setCell ⟨k, i, none⟩ v) g o := Bk_grown h (gb_set (World.grownBy.refl _ _) i v) hne
theorem fill3 {w : World} {g : Nat} {T : TypeId} {z0 z1 z2 u0 u1 u2 : Value} (q : Bk w g (.cells #[z0, z1, z2] T (0, 0))) : Bk (((w.setCell ⟨g, 0, none⟩ u0).setCell ⟨g, 1, none⟩ u1).setCell ⟨g, 2, none⟩ u2) g (.cells #[u0, u1, u2] T (0, 0)) := by
  unfold Bk at q ⊢
  simp only [World.setCell, Array.getElem?_modify, q]
  simp
/-- The rows of a copy of a state. -/
structure Cpy (w : World) (B : Nat) (W : Wd) (A : Option Addr) (c : Nat) (M : Option Addr) (d : Nat) : Prop where
  x : w.ownsRow B 3 1 (.slice A W.n c) W.n (ints W.X W.n)
  y : w.ownsRow B 4 1 (.slice M W.m d) W.m (bools W.Y W.m)
set_option maxRecDepth 100000 in
set_option maxHeartbeats 16000000 in
theorem Copy_any {w : World} {B1 : Nat} {W : Wd} (hw : Wt w B1 W) (hn : 0 < W.n) (hm : 0 < W.m) (hn9 : W.n ≤ 1000) (hm9 : W.m ≤ 1000) :
    Calls Try.prog 67 #[.agg #[.int .i64 W.min, .slice W.A W.n W.c, .slice W.M W.m W.d]] w fun e w' => ∃ A c M d, e = .returned (.agg #[.int .i64 W.min, .slice A W.n c, .slice M W.m d]) ∧ Cpy w' w.heap.size W A c M d ∧ Below w.heap.size w w' := by
  obtain ⟨i0, hi0, hz0, hz1, hz2⟩ : ∃ i, Try.prog.info? 3 = some i ∧ i.zero = some (.int .i64 0) ∧ i.size = 1 ∧ i.bytes = 8 := by
    have := info_int
    cases hx : Try.prog.info? 3 with
    | none => rw [hx] at this; cases this
    | some i => rw [hx] at this; simp at this; exact ⟨i, rfl, this.1, this.2.1, this.2.2⟩
  obtain ⟨b0, bi0, bz0, bz1, bz2⟩ : ∃ i, Try.prog.info? 4 = some i ∧ i.zero = some (.bool false) ∧ i.size = 1 ∧ i.bytes = 1 := by
    have := info_bool
    cases hx : Try.prog.info? 4 with
    | none => rw [hx] at this; cases this
    | some i => rw [hx] at this; simp at this; exact ⟨i, rfl, this.1, this.2.1, this.2.2⟩
  obtain ⟨g, hg⟩ : ∃ g, w.heap.size = g := ⟨_, rfl⟩
  obtain ⟨ax, hax, -, -⟩ := hw.x 0 hn
  obtain ⟨ay, hay, -, -⟩ := hw.y 0 hm
  have Hax := hid hax
  have Hay := hid hay
  clear hax hay
  have hb0 := ((Below.refl w.heap.size w).alloc (Nat.le_refl _) (.cells #[.int .i64 W.min, .slice W.A W.n W.c, .slice W.M W.m W.d] 33)).alloc (by simp) (.cells #[.int .i64 0, .slice none 0 0, .slice none 0 0] 33)
  have K0 := (Bk.of_alloc w (.cells #[.int .i64 W.min, .slice W.A W.n W.c, .slice W.M W.m W.d] 33) hg).alloc (.cells #[.int .i64 0, .slice none 0 0, .slice none 0 0] 33)
  have R0 : Bk _ (g + 1) _ := Bk.of_alloc (w.alloc (.cells #[.int .i64 W.min, .slice W.A W.n W.c, .slice W.M W.m W.d] 33)) (.cells #[.int .i64 0, .slice none 0 0, .slice none 0 0] 33) (by simp [hg])
  have V0 := (hw.below (alo (o := .cells #[.int .i64 W.min, .slice W.A W.n W.c, .slice W.M W.m W.d] 33))).below (alo (o := .cells #[.int .i64 0, .slice none 0 0, .slice none 0 0] 33))
  have hs0 : ((w.alloc (.cells #[.int .i64 W.min, .slice W.A W.n W.c, .slice W.M W.m W.d] 33)).alloc (.cells #[.int .i64 0, .slice none 0 0, .slice none 0 0] 33)).heap.size = g + 2 := by simp [hg]
  go_enter Try.func67, Try.ntmps67
  go_upto_region 1 with fail
  generalize (w.alloc (.cells #[.int .i64 W.min, .slice W.A W.n W.c, .slice W.M W.m W.d] 33)).alloc (.cells #[.int .i64 0, .slice none 0 0, .slice none 0 0] 33) = W0 at *
  have HB0 := hid hb0
  have Hg := hid hg
  have Hs0 := hid hs0
  have hgl : g < W0.heap.size := by omega
  have hgl1 : g + 1 < W0.heap.size := by omega
  obtain ⟨y0, y1, y2⟩ := K0.c3
  have hax := Hax.out
  have hay := Hay.out
  rw [hax] at y1
  rw [hay] at y2
  clear hax hay
  clear hb0 hg hw
  have VD := fun (w : World) (h : Below W0.heap.size W0 w) => V0.below h
  have KC := hid (fun (w : World) (h : Below W0.heap.size W0 w) => (show w.cell? ⟨g, 0, none⟩ = some (.int .i64 W.min) ∧ w.cell? ⟨g, 1, none⟩ = some (.slice (some ax) W.n W.c) ∧ w.cell? ⟨g, 2, none⟩ = some (.slice (some ay) W.m W.d) from by
    obtain ⟨z0, z1, z2⟩ := (K0.step h).c3
    rw [Hax.out] at z1
    rw [Hay.out] at z2
    exact ⟨z0, z1, z2⟩))
  have RC := hid (fun (w : World) (h : Below W0.heap.size W0 w) => R0.step h)
  have KB := hid (fun (w : World) (h : Bk w g (.cells #[.int .i64 W.min, .slice W.A W.n W.c, .slice W.M W.m W.d] 33)) => (show w.cell? ⟨g, 0, none⟩ = some (.int .i64 W.min) ∧ w.cell? ⟨g, 1, none⟩ = some (.slice (some ax) W.n W.c) ∧ w.cell? ⟨g, 2, none⟩ = some (.slice (some ay) W.m W.d) from by
    obtain ⟨z0, z1, z2⟩ := h.c3
    rw [Hax.out] at z1
    rw [Hay.out] at z2
    exact ⟨z0, z1, z2⟩))
  have HK0 := hid (fun (w : World) (h : Below W0.heap.size W0 w) => K0.step h)
  have hne1 : g ≠ g + 1 := by omega
  clear K0 R0 V0
  go_region_held3 (fun w' => w'.cell? ⟨g, 0, none⟩ = some (.int .i64 W.min) ∧ w'.cell? ⟨g, 1, none⟩ = some (.slice (some ax) W.n W.c) ∧ w'.cell? ⟨g, 2, none⟩ = some (.slice (some ay) W.m W.d)) (first | with_reducible exact KB.out _ (bk_set (bk_set (bk_set (HK0.out _ HX2.out) hne1) hne1) hne1) | (with_reducible refine KC.out _ ?_; repeat' (first | with_reducible exact dr0 | with_reducible exact dr1 | with_reducible exact dr2 | with_reducible exact HX2.out | with_reducible exact HX1.out | with_reducible exact (bth HX1.out al1 HX1.out.size) | with_reducible exact (bth HX1.out al2 HX1.out.size) | with_reducible apply Below.setCell | (simpa using hgl) | (simp; omega) | omega))) (first
    | (refine step_append_lies _ (by rfl) _ _ _ (by rfl) W0.heap.size 3 i0 (.int .i64 0) 1 8 Try.underlying27 hi0 hz0 hz1 hz2 rfl (by decide) (.slice (some ⟨g + 2, 0, none⟩) 0 0) 0 [] (by rfl) (own_empty (bk_drew (Bk.of_alloc W0 (.cells #[] 3) hs0)) (by omega)) ax W.n W.c (ints W.X W.n) (by rfl) (by rw [ints_len, Nat.mul_one]) (ints_src (VD _ dr1) Hax.out) (ints_one _ _) hn (by unfold maxLen; omega) (by omega) dr1.size _ rfl ?_; intro g1 cap1 w1 hown1 hgrow1 hat1 hlt1; have HX1 := hid (lies_below dr1 hgrow1 rfl (show W0.heap.size ≤ g + 2 by omega) dr1.size); have l1 : g < w1.heap.size := (by have := HX1.out.size; omega); have l2 : g + 1 < w1.heap.size := (by have := HX1.out.size; omega); have O8 := hown1)
    | (refine step_append_lies _ (by rfl) _ _ _ (by rfl) W0.heap.size 3 i0 (.int .i64 0) 1 8 Try.underlying27 hi0 hz0 hz1 hz2 rfl (by decide) (.slice (some ⟨g + 2, 0, none⟩) 0 0) 0 [] (by rfl) (own_empty (bk_drew ((Bk.of_alloc W0 (.cells #[] 3) hs0).alloc (.cells #[] 4))) (by omega)) ax W.n W.c (ints W.X W.n) (by rfl) (by rw [ints_len, Nat.mul_one]) (ints_src (VD _ dr2) Hax.out) (ints_one _ _) hn (by unfold maxLen; omega) (by omega) dr2.size _ rfl ?_; intro g1 cap1 w1 hown1 hgrow1 hat1 hlt1; have HX1 := hid (lies_below dr2 hgrow1 rfl (show W0.heap.size ≤ g + 2 by omega) dr2.size); have l1 : g < w1.heap.size := (by have := HX1.out.size; omega); have l2 : g + 1 < w1.heap.size := (by have := HX1.out.size; omega); have O8 := hown1; have E1 := bk_lies (k := g + 2) (bk_drew (Bk.of_alloc (W0.alloc (.cells #[] 3)) (.cells #[] 4) (g := g + 3) (by simp [hs0]))) hgrow1 rfl (by omega); have hne : g1 ≠ g + 3 := (by rcases hat1 with h | h; (have h : some (g + 2) = some g1 := h; injection h with h; omega); (simp [hs0] at h; omega)))
    | (refine step_append_lies _ (by rfl) _ _ _ (by rfl) W0.heap.size 3 i0 (.int .i64 0) 1 8 Try.underlying27 hi0 hz0 hz1 hz2 rfl (by decide) (.slice (some ⟨g + 3, 0, none⟩) 0 0) 0 [] (by rfl) (own_empty (bk_drew (Bk.of_alloc (W0.alloc (.cells #[] 4)) (.cells #[] 3) (g := g + 3) (by simp [hs0]))) (by omega)) ax W.n W.c (ints W.X W.n) (by rfl) (by rw [ints_len, Nat.mul_one]) (ints_src (VD _ dr2) Hax.out) (ints_one _ _) hn (by unfold maxLen; omega) (by omega) dr2.size _ rfl ?_; intro g1 cap1 w1 hown1 hgrow1 hat1 hlt1; have HX1 := hid (lies_below dr2 hgrow1 rfl (show W0.heap.size ≤ g + 3 by omega) dr2.size); have l1 : g < w1.heap.size := (by have := HX1.out.size; omega); have l2 : g + 1 < w1.heap.size := (by have := HX1.out.size; omega); have O8 := hown1; have E1 := bk_lies (k := g + 3) (bk_drew ((Bk.of_alloc W0 (.cells #[] 4) hs0).alloc (.cells #[] 3))) hgrow1 rfl (by omega); have hne : g1 ≠ g + 2 := (by rcases hat1 with h | h; (have h : some (g + 3) = some g1 := h; injection h with h; omega); (simp [hs0] at h; omega)))
    | (refine step_append_lies _ (by rfl) _ _ _ (by rfl) W0.heap.size 4 b0 (.bool false) 1 1 Try.underlying31 bi0 bz0 bz1 bz2 rfl (by decide) (.slice (some ⟨w1.heap.size, 0, none⟩) 0 0) 0 [] (by rfl) (own_empty (Bk.of_alloc w1 (.cells #[] 4) rfl) (by have := HX1.out.size; omega)) ay W.m W.d (bools W.Y W.m) (by rfl) (by rw [bools_len, Nat.mul_one]) (bools_src (VD _ (bth HX1.out al1 HX1.out.size)) Hay.out) (bools_one _ _) hm (by unfold maxLen; omega) (by omega) (bth HX1.out al1 HX1.out.size).size _ rfl ?_; intro g2 cap2 w2 hown2 hgrow2 hat2 hlt2; have HX2 := hid (lies_below (bth HX1.out al1 HX1.out.size) hgrow2 rfl (show W0.heap.size ≤ w1.heap.size from HX1.out.size) (bth HX1.out al1 HX1.out.size).size); have O12 := hown2; replace O8 := own_lies (O8.alloc (.cells #[] 4)) hgrow2 rfl (Nat.ne_of_lt hlt1); have hzz : w.heap.size ≤ W0.heap.size := HB0.out.size; obtain ⟨r0, r1, r2⟩ := (RC.out _ HX2.out).c3; have f0 := Bk.fz (RC.out _ HX2.out) 0; have f1 := Bk.fz (RC.out _ HX2.out) 1; have f2 := Bk.fz (RC.out _ HX2.out) 2)
    | (refine step_append_lies _ (by rfl) _ _ _ (by rfl) W0.heap.size 4 b0 (.bool false) 1 1 Try.underlying31 bi0 bz0 bz1 bz2 rfl (by decide) (.slice (some ⟨g + 3, 0, none⟩) 0 0) 0 [] (by rfl) (own_empty E1 (by omega)) ay W.m W.d (bools W.Y W.m) (by rfl) (by rw [bools_len, Nat.mul_one]) (bools_src (VD _ HX1.out) Hay.out) (bools_one _ _) hm (by unfold maxLen; omega) (by omega) HX1.out.size _ rfl ?_; intro g2 cap2 w2 hown2 hgrow2 hat2 hlt2; have HX2 := hid (lies_below HX1.out hgrow2 rfl (show W0.heap.size ≤ g + 3 by omega) HX1.out.size); have O12 := hown2; replace O8 := own_lies O8 hgrow2 rfl hne; have hzz : w.heap.size ≤ W0.heap.size := HB0.out.size; obtain ⟨r0, r1, r2⟩ := (RC.out _ HX2.out).c3; have f0 := Bk.fz (RC.out _ HX2.out) 0; have f1 := Bk.fz (RC.out _ HX2.out) 1; have f2 := Bk.fz (RC.out _ HX2.out) 2)
    | (refine step_append_lies _ (by rfl) _ _ _ (by rfl) W0.heap.size 4 b0 (.bool false) 1 1 Try.underlying31 bi0 bz0 bz1 bz2 rfl (by decide) (.slice (some ⟨g + 2, 0, none⟩) 0 0) 0 [] (by rfl) (own_empty E1 (by omega)) ay W.m W.d (bools W.Y W.m) (by rfl) (by rw [bools_len, Nat.mul_one]) (bools_src (VD _ HX1.out) Hay.out) (bools_one _ _) hm (by unfold maxLen; omega) (by omega) HX1.out.size _ rfl ?_; intro g2 cap2 w2 hown2 hgrow2 hat2 hlt2; have HX2 := hid (lies_below HX1.out hgrow2 rfl (show W0.heap.size ≤ g + 2 by omega) HX1.out.size); have O12 := hown2; replace O8 := own_lies O8 hgrow2 rfl hne; have hzz : w.heap.size ≤ W0.heap.size := HB0.out.size; obtain ⟨r0, r1, r2⟩ := (RC.out _ HX2.out).c3; have f0 := Bk.fz (RC.out _ HX2.out) 0; have f1 := Bk.fz (RC.out _ HX2.out) 1; have f2 := Bk.fz (RC.out _ HX2.out) 2))
  all_goals
    have J := fill3 (u0 := .int .i64 W.min) (u1 := .slice (some ⟨g1, 0, none⟩) W.n cap1) (u2 := .slice (some ⟨g2, 0, none⟩) W.m cap2) (RC.out _ HX2.out)
    obtain ⟨j0, j1, j2⟩ := J.c3
    have O8 : w2.ownsRow W0.heap.size 3 1 (.slice (some ⟨g1, 0, none⟩) W.n cap1) W.n (ints W.X W.n) := by simpa using O8
    have O12 : w2.ownsRow W0.heap.size 4 1 (.slice (some ⟨g2, 0, none⟩) W.m cap2) W.m (bools W.Y W.m) := by simpa using O12
    go_wp2
    exact bodyPost_ret (v := .agg #[.int .i64 W.min, .slice (some ⟨g1, 0, none⟩) W.n cap1, .slice (some ⟨g2, 0, none⟩) W.m cap2]) (by simp [results, Try.results67, go_sem, j0, j1, j2]) rfl ⟨_, _, _, _, rfl, ⟨own_base (ownsRow_setCell_below (ownsRow_setCell_below (ownsRow_setCell_below O8 (a := ⟨g + 1, 0, none⟩) hgl1 _) (a := ⟨g + 1, 1, none⟩) hgl1 _) (a := ⟨g + 1, 2, none⟩) hgl1 _) hzz, own_base (ownsRow_setCell_below (ownsRow_setCell_below (ownsRow_setCell_below O12 (a := ⟨g + 1, 0, none⟩) hgl1 _) (a := ⟨g + 1, 1, none⟩) hgl1 _) (a := ⟨g + 1, 2, none⟩) hgl1 _) hzz⟩, bset3 (HB0.out.trans (HX2.out.mono hzz)) (by rw [Hg.out]; omega)⟩

end Go.Proofs.Ytndcopljjnbkbaa
