/- Networks: Copy of the reference. For every state with a basin and a link. Networks: slices.Clone at integers and at truth values. For every slice. Networks: Started of the reference with turns; newRun of the program. For every network, state and turns. -/
import Derived.Test.YtockfiobhmohnaaGk
import Derived.Test.YtockfiobhmohnaaGf
import Derived.Deep.RegionLawGrows
import Derived.Deep.AppendLies
import Derived.Deep.RegionWith
import Derived.Test.YtockfiobhmohnaaGh
namespace Go.Proofs.Ytockfiobhmohnaa
open Go.RowKit Go.Maps Kb Wb

/-- Truth values as cells. -/
def bools (Y : Nat → Bool) (n : Nat) : List Value := (List.range n).map fun i => .bool (Y i)
theorem bools_len (Y : Nat → Bool) (n : Nat) : (bools Y n).length = n := by simp [bools]
theorem bools_get (Y : Nat → Bool) {n i : Nat} (h : i < n) : (bools Y n)[i]? = some (.bool (Y i)) := by simp [bools, h]
theorem ints_one (X : Nat → Int) (n : Nat) : ∀ u ∈ ints X n, u.oneCell' = true := fun u hu => by
  unfold ints at hu
  obtain ⟨i, _, rfl⟩ := List.mem_map.1 hu
  rfl
theorem bools_one (X : Nat → Bool) (n : Nat) : ∀ u ∈ bools X n, u.oneCell' = true := fun u hu => by
  unfold bools at hu
  obtain ⟨i, _, rfl⟩ := List.mem_map.1 hu
  rfl
theorem ints_src {w : World} {B : Nat} {W : Wd} {ad : Addr} (h : Wt w B W) (hA : W.A = some ad) : ∀ j u, (ints W.X W.n)[j]? = some u → w.cell? (ad.add j) = some u := fun j u hu => by
  have hj : j < W.n := by have := (List.getElem?_eq_some_iff.1 hu).1; rwa [ints_len] at this
  rw [ints_get _ hj] at hu
  obtain ⟨ad', e, _, hc⟩ := h.x j hj
  rw [hA] at e
  injection e with e
  subst e
  rw [hc]; exact hu
theorem bools_src {w : World} {B : Nat} {W : Wd} {ad : Addr} (h : Wt w B W) (hA : W.M = some ad) : ∀ j u, (bools W.Y W.m)[j]? = some u → w.cell? (ad.add j) = some u := fun j u hu => by
  have hj : j < W.m := by have := (List.getElem?_eq_some_iff.1 hu).1; rwa [bools_len] at this
  rw [bools_get _ hj] at hu
  obtain ⟨ad', e, _, hc⟩ := h.y j hj
  rw [hA] at e
  injection e with e
  subst e
  rw [hc]; exact hu
theorem own_empty {w : World} {k base : Nat} {T : TypeId} (h : Bk w k (.cells #[] T (0, 0))) (hb : base ≤ k) : w.ownsRow base T 1 (.slice (some ⟨k, 0, none⟩) 0 0) 0 [] :=
  ⟨rfl, .inr ⟨k, 0, #[], rfl, hb, h, Nat.le_refl _, Nat.zero_le _, rfl, rfl⟩⟩
theorem bk_drew {w : World} {g : Nat} {o : Obj} (h : Bk w g o) : Bk w.drew g o := h
theorem lies_below {W0 w w' : World} {B k : Nat} {r : Option Nat} (h : Below B W0 w) (hg : w.grownBy w' r) (hr : r = some k) (hk : B ≤ k) (hB : B ≤ w.heap.size) : Below B W0 w' :=
  h.grown hg hB (fun j e => by rw [hr] at e; injection e with e; omega)
theorem bk_lies {w w' : World} {g k : Nat} {o : Obj} {r : Option Nat} (h : Bk w g o) (hg : w.grownBy w' r) (hr : r = some k) (hne : g ≠ k) : Bk w' g o := by subst hr; exact Bk_grown h hg hne
theorem own_lies {w w' : World} {base : Nat} {e : TypeId} {g n m cap k : Nat} {xs : List Value} {r : Option Nat} (h : w.ownsRow base e 1 (.slice (some ⟨g, 0, none⟩) n cap) m xs) (hg : w.grownBy w' r) (hr : r = some k) (hne : g ≠ k) : w'.ownsRow base e 1 (.slice (some ⟨g, 0, none⟩) n cap) m xs := by
  subst hr
  exact h.kept hg (by simp [Value.ownBlock]; exact hne)
theorem bset3 {W0 w : World} {g B : Nat} {u0 u1 u2 : Value} (hM : Below B W0 w) (hg : B ≤ g) : Below B W0 (((w.setCell ⟨g, 0, none⟩ u0).setCell ⟨g, 1, none⟩ u1).setCell ⟨g, 2, none⟩ u2) := ((hM.setCell (p := ⟨g, 0, none⟩) hg u0).setCell (p := ⟨g, 1, none⟩) hg u1).setCell (p := ⟨g, 2, none⟩) hg u2
theorem bk_set {w : World} {g k i : Nat} {o : Obj} {v : Value} (h : Bk w g o) (hne : g ≠ k) : Bk (w.setCell ⟨k, i, none⟩ v) g o := Bk_grown h (gb_set (World.grownBy.refl _ _) i v) hne
theorem fill3 {w : World} {g : Nat} {T : TypeId} {z0 z1 z2 u0 u1 u2 : Value} (q : Bk w g (.cells #[z0, z1, z2] T (0, 0))) : Bk (((w.setCell ⟨g, 0, none⟩ u0).setCell ⟨g, 1, none⟩ u1).setCell ⟨g, 2, none⟩ u2) g (.cells #[u0, u1, u2] T (0, 0)) := by
  unfold Bk at q ⊢
  simp only [World.setCell, Array.getElem?_modify, q]
  simp
/-- The rows of a copy of a state. -/
structure Cpy (w : World) (B : Nat) (W : Wd) (A : Option Addr) (c : Nat) (M : Option Addr) (d : Nat) : Prop where
  x : w.ownsRow B 3 1 (.slice A W.n c) W.n (ints W.X W.n)
  y : w.ownsRow B 4 1 (.slice M W.m d) W.m (bools W.Y W.m)
set_option maxRecDepth 100000 in
set_option maxHeartbeats 16000000 in
theorem Copy_any {w : World} {B1 : Nat} {W : Wd} (hw : Wt w B1 W) (hn : 0 < W.n) (hm : 0 < W.m) (hn9 : W.n ≤ 1000) (hm9 : W.m ≤ 1000) :
    Calls Try.prog 41 #[.agg #[.int .i64 W.min, .slice W.A W.n W.c, .slice W.M W.m W.d]] w fun e w' => ∃ A c M d, e = .returned (.agg #[.int .i64 W.min, .slice A W.n c, .slice M W.m d]) ∧ Cpy w' w.heap.size W A c M d ∧ Below w.heap.size w w' := by
  obtain ⟨i0, hi0, hz0, hz1, hz2⟩ : ∃ i, Try.prog.info? 3 = some i ∧ i.zero = some (.int .i64 0) ∧ i.size = 1 ∧ i.bytes = 8 := by
    have := info_int
    cases hx : Try.prog.info? 3 with
    | none => rw [hx] at this; cases this
    | some i => rw [hx] at this; simp at this; exact ⟨i, rfl, this.1, this.2.1, this.2.2⟩
  obtain ⟨b0, bi0, bz0, bz1, bz2⟩ : ∃ i, Try.prog.info? 4 = some i ∧ i.zero = some (.bool false) ∧ i.size = 1 ∧ i.bytes = 1 := by
    have := info_bool
    cases hx : Try.prog.info? 4 with
    | none => rw [hx] at this; cases this
    | some i => rw [hx] at this; simp at this; exact ⟨i, rfl, this.1, this.2.1, this.2.2⟩
  obtain ⟨g, hg⟩ : ∃ g, w.heap.size = g := ⟨_, rfl⟩
  obtain ⟨ax, hax, -, -⟩ := hw.x 0 hn
  obtain ⟨ay, hay, -, -⟩ := hw.y 0 hm
  have Hax := hid hax
  have Hay := hid hay
  clear hax hay
  have hb0 := ((Below.refl w.heap.size w).alloc (Nat.le_refl _) (.cells #[.int .i64 W.min, .slice W.A W.n W.c, .slice W.M W.m W.d] 30)).alloc (by simp) (.cells #[.int .i64 0, .slice none 0 0, .slice none 0 0] 30)
  have K0 := (Bk.of_alloc w (.cells #[.int .i64 W.min, .slice W.A W.n W.c, .slice W.M W.m W.d] 30) hg).alloc (.cells #[.int .i64 0, .slice none 0 0, .slice none 0 0] 30)
  have R0 : Bk _ (g + 1) _ := Bk.of_alloc (w.alloc (.cells #[.int .i64 W.min, .slice W.A W.n W.c, .slice W.M W.m W.d] 30)) (.cells #[.int .i64 0, .slice none 0 0, .slice none 0 0] 30) (by simp [hg])
  have V0 := (hw.below (alo (o := .cells #[.int .i64 W.min, .slice W.A W.n W.c, .slice W.M W.m W.d] 30))).below (alo (o := .cells #[.int .i64 0, .slice none 0 0, .slice none 0 0] 30))
  have hs0 : ((w.alloc (.cells #[.int .i64 W.min, .slice W.A W.n W.c, .slice W.M W.m W.d] 30)).alloc (.cells #[.int .i64 0, .slice none 0 0, .slice none 0 0] 30)).heap.size = g + 2 := by simp [hg]
  go_enter Try.func41, Try.ntmps41
  go_upto_region 1 with fail
  generalize (w.alloc (.cells #[.int .i64 W.min, .slice W.A W.n W.c, .slice W.M W.m W.d] 30)).alloc (.cells #[.int .i64 0, .slice none 0 0, .slice none 0 0] 30) = W0 at *
  have HB0 := hid hb0
  have Hg := hid hg
  have Hs0 := hid hs0
  have hgl : g < W0.heap.size := by omega
  have hgl1 : g + 1 < W0.heap.size := by omega
  obtain ⟨y0, y1, y2⟩ := K0.c3
  have hax := Hax.out
  have hay := Hay.out
  rw [hax] at y1
  rw [hay] at y2
  clear hax hay
  clear hb0 hg hw
  have VD := fun (w : World) (h : Below W0.heap.size W0 w) => V0.below h
  have KC := hid (fun (w : World) (h : Below W0.heap.size W0 w) => (show w.cell? ⟨g, 0, none⟩ = some (.int .i64 W.min) ∧ w.cell? ⟨g, 1, none⟩ = some (.slice (some ax) W.n W.c) ∧ w.cell? ⟨g, 2, none⟩ = some (.slice (some ay) W.m W.d) from by
    obtain ⟨z0, z1, z2⟩ := (K0.step h).c3
    rw [Hax.out] at z1
    rw [Hay.out] at z2
    exact ⟨z0, z1, z2⟩))
  have RC := hid (fun (w : World) (h : Below W0.heap.size W0 w) => R0.step h)
  have KB := hid (fun (w : World) (h : Bk w g (.cells #[.int .i64 W.min, .slice W.A W.n W.c, .slice W.M W.m W.d] 30)) => (show w.cell? ⟨g, 0, none⟩ = some (.int .i64 W.min) ∧ w.cell? ⟨g, 1, none⟩ = some (.slice (some ax) W.n W.c) ∧ w.cell? ⟨g, 2, none⟩ = some (.slice (some ay) W.m W.d) from by
    obtain ⟨z0, z1, z2⟩ := h.c3
    rw [Hax.out] at z1
    rw [Hay.out] at z2
    exact ⟨z0, z1, z2⟩))
  have HK0 := hid (fun (w : World) (h : Below W0.heap.size W0 w) => K0.step h)
  have hne1 : g ≠ g + 1 := by omega
  clear K0 R0 V0
  go_region_held3 (fun w' => w'.cell? ⟨g, 0, none⟩ = some (.int .i64 W.min) ∧ w'.cell? ⟨g, 1, none⟩ = some (.slice (some ax) W.n W.c) ∧ w'.cell? ⟨g, 2, none⟩ = some (.slice (some ay) W.m W.d)) (first | with_reducible exact KB.out _ (bk_set (bk_set (bk_set (HK0.out _ HX2.out) hne1) hne1) hne1) | (with_reducible refine KC.out _ ?_; repeat' (first | with_reducible exact dr0 | with_reducible exact dr1 | with_reducible exact dr2 | with_reducible exact HX2.out | with_reducible exact HX1.out | with_reducible exact (bth HX1.out al1 HX1.out.size) | with_reducible exact (bth HX1.out al2 HX1.out.size) | with_reducible apply Below.setCell | (simpa using hgl) | (simp; omega) | omega))) (first
    | (refine step_append_lies _ (by rfl) _ _ _ (by rfl) W0.heap.size 3 i0 (.int .i64 0) 1 8 Try.underlying27 hi0 hz0 hz1 hz2 rfl (by decide) (.slice (some ⟨g + 2, 0, none⟩) 0 0) 0 [] (by rfl) (own_empty (bk_drew (Bk.of_alloc W0 (.cells #[] 3) hs0)) (by omega)) ax W.n W.c (ints W.X W.n) (by rfl) (by rw [ints_len, Nat.mul_one]) (ints_src (VD _ dr1) Hax.out) (ints_one _ _) hn (by unfold maxLen; omega) (by omega) dr1.size _ rfl ?_; intro g1 cap1 w1 hown1 hgrow1 hat1 hlt1; have HX1 := hid (lies_below dr1 hgrow1 rfl (show W0.heap.size ≤ g + 2 by omega) dr1.size); have l1 : g < w1.heap.size := (by have := HX1.out.size; omega); have l2 : g + 1 < w1.heap.size := (by have := HX1.out.size; omega); have O8 := hown1)
    | (refine step_append_lies _ (by rfl) _ _ _ (by rfl) W0.heap.size 3 i0 (.int .i64 0) 1 8 Try.underlying27 hi0 hz0 hz1 hz2 rfl (by decide) (.slice (some ⟨g + 2, 0, none⟩) 0 0) 0 [] (by rfl) (own_empty (bk_drew ((Bk.of_alloc W0 (.cells #[] 3) hs0).alloc (.cells #[] 4))) (by omega)) ax W.n W.c (ints W.X W.n) (by rfl) (by rw [ints_len, Nat.mul_one]) (ints_src (VD _ dr2) Hax.out) (ints_one _ _) hn (by unfold maxLen; omega) (by omega) dr2.size _ rfl ?_; intro g1 cap1 w1 hown1 hgrow1 hat1 hlt1; have HX1 := hid (lies_below dr2 hgrow1 rfl (show W0.heap.size ≤ g + 2 by omega) dr2.size); have l1 : g < w1.heap.size := (by have := HX1.out.size; omega); have l2 : g + 1 < w1.heap.size := (by have := HX1.out.size; omega); have O8 := hown1; have E1 := bk_lies (k := g + 2) (bk_drew (Bk.of_alloc (W0.alloc (.cells #[] 3)) (.cells #[] 4) (g := g + 3) (by simp [hs0]))) hgrow1 rfl (by omega); have hne : g1 ≠ g + 3 := (by rcases hat1 with h | h; (have h : some (g + 2) = some g1 := h; injection h with h; omega); (simp [hs0] at h; omega)))
    | (refine step_append_lies _ (by rfl) _ _ _ (by rfl) W0.heap.size 3 i0 (.int .i64 0) 1 8 Try.underlying27 hi0 hz0 hz1 hz2 rfl (by decide) (.slice (some ⟨g + 3, 0, none⟩) 0 0) 0 [] (by rfl) (own_empty (bk_drew (Bk.of_alloc (W0.alloc (.cells #[] 4)) (.cells #[] 3) (g := g + 3) (by simp [hs0]))) (by omega)) ax W.n W.c (ints W.X W.n) (by rfl) (by rw [ints_len, Nat.mul_one]) (ints_src (VD _ dr2) Hax.out) (ints_one _ _) hn (by unfold maxLen; omega) (by omega) dr2.size _ rfl ?_; intro g1 cap1 w1 hown1 hgrow1 hat1 hlt1; have HX1 := hid (lies_below dr2 hgrow1 rfl (show W0.heap.size ≤ g + 3 by omega) dr2.size); have l1 : g < w1.heap.size := (by have := HX1.out.size; omega); have l2 : g + 1 < w1.heap.size := (by have := HX1.out.size; omega); have O8 := hown1; have E1 := bk_lies (k := g + 3) (bk_drew ((Bk.of_alloc W0 (.cells #[] 4) hs0).alloc (.cells #[] 3))) hgrow1 rfl (by omega); have hne : g1 ≠ g + 2 := (by rcases hat1 with h | h; (have h : some (g + 3) = some g1 := h; injection h with h; omega); (simp [hs0] at h; omega)))
    | (refine step_append_lies _ (by rfl) _ _ _ (by rfl) W0.heap.size 4 b0 (.bool false) 1 1 Try.underlying28 bi0 bz0 bz1 bz2 rfl (by decide) (.slice (some ⟨w1.heap.size, 0, none⟩) 0 0) 0 [] (by rfl) (own_empty (Bk.of_alloc w1 (.cells #[] 4) rfl) (by have := HX1.out.size; omega)) ay W.m W.d (bools W.Y W.m) (by rfl) (by rw [bools_len, Nat.mul_one]) (bools_src (VD _ (bth HX1.out al1 HX1.out.size)) Hay.out) (bools_one _ _) hm (by unfold maxLen; omega) (by omega) (bth HX1.out al1 HX1.out.size).size _ rfl ?_; intro g2 cap2 w2 hown2 hgrow2 hat2 hlt2; have HX2 := hid (lies_below (bth HX1.out al1 HX1.out.size) hgrow2 rfl (show W0.heap.size ≤ w1.heap.size from HX1.out.size) (bth HX1.out al1 HX1.out.size).size); have O12 := hown2; replace O8 := own_lies (O8.alloc (.cells #[] 4)) hgrow2 rfl (Nat.ne_of_lt hlt1); have hzz : w.heap.size ≤ W0.heap.size := HB0.out.size; obtain ⟨r0, r1, r2⟩ := (RC.out _ HX2.out).c3; have f0 := Bk.fz (RC.out _ HX2.out) 0; have f1 := Bk.fz (RC.out _ HX2.out) 1; have f2 := Bk.fz (RC.out _ HX2.out) 2)
    | (refine step_append_lies _ (by rfl) _ _ _ (by rfl) W0.heap.size 4 b0 (.bool false) 1 1 Try.underlying28 bi0 bz0 bz1 bz2 rfl (by decide) (.slice (some ⟨g + 3, 0, none⟩) 0 0) 0 [] (by rfl) (own_empty E1 (by omega)) ay W.m W.d (bools W.Y W.m) (by rfl) (by rw [bools_len, Nat.mul_one]) (bools_src (VD _ HX1.out) Hay.out) (bools_one _ _) hm (by unfold maxLen; omega) (by omega) HX1.out.size _ rfl ?_; intro g2 cap2 w2 hown2 hgrow2 hat2 hlt2; have HX2 := hid (lies_below HX1.out hgrow2 rfl (show W0.heap.size ≤ g + 3 by omega) HX1.out.size); have O12 := hown2; replace O8 := own_lies O8 hgrow2 rfl hne; have hzz : w.heap.size ≤ W0.heap.size := HB0.out.size; obtain ⟨r0, r1, r2⟩ := (RC.out _ HX2.out).c3; have f0 := Bk.fz (RC.out _ HX2.out) 0; have f1 := Bk.fz (RC.out _ HX2.out) 1; have f2 := Bk.fz (RC.out _ HX2.out) 2)
    | (refine step_append_lies _ (by rfl) _ _ _ (by rfl) W0.heap.size 4 b0 (.bool false) 1 1 Try.underlying28 bi0 bz0 bz1 bz2 rfl (by decide) (.slice (some ⟨g + 2, 0, none⟩) 0 0) 0 [] (by rfl) (own_empty E1 (by omega)) ay W.m W.d (bools W.Y W.m) (by rfl) (by rw [bools_len, Nat.mul_one]) (bools_src (VD _ HX1.out) Hay.out) (bools_one _ _) hm (by unfold maxLen; omega) (by omega) HX1.out.size _ rfl ?_; intro g2 cap2 w2 hown2 hgrow2 hat2 hlt2; have HX2 := hid (lies_below HX1.out hgrow2 rfl (show W0.heap.size ≤ g + 2 by omega) HX1.out.size); have O12 := hown2; replace O8 := own_lies O8 hgrow2 rfl hne; have hzz : w.heap.size ≤ W0.heap.size := HB0.out.size; obtain ⟨r0, r1, r2⟩ := (RC.out _ HX2.out).c3; have f0 := Bk.fz (RC.out _ HX2.out) 0; have f1 := Bk.fz (RC.out _ HX2.out) 1; have f2 := Bk.fz (RC.out _ HX2.out) 2))
  all_goals
    have J := fill3 (u0 := .int .i64 W.min) (u1 := .slice (some ⟨g1, 0, none⟩) W.n cap1) (u2 := .slice (some ⟨g2, 0, none⟩) W.m cap2) (RC.out _ HX2.out)
    obtain ⟨j0, j1, j2⟩ := J.c3
    have O8 : w2.ownsRow W0.heap.size 3 1 (.slice (some ⟨g1, 0, none⟩) W.n cap1) W.n (ints W.X W.n) := by simpa using O8
    have O12 : w2.ownsRow W0.heap.size 4 1 (.slice (some ⟨g2, 0, none⟩) W.m cap2) W.m (bools W.Y W.m) := by simpa using O12
    go_wp2
    exact bodyPost_ret (v := .agg #[.int .i64 W.min, .slice (some ⟨g1, 0, none⟩) W.n cap1, .slice (some ⟨g2, 0, none⟩) W.m cap2]) (by simp [results, Try.results41, go_sem, j0, j1, j2]) rfl ⟨_, _, _, _, rfl, ⟨own_base (ownsRow_setCell_below (ownsRow_setCell_below (ownsRow_setCell_below O8 (a := ⟨g + 1, 0, none⟩) hgl1 _) (a := ⟨g + 1, 1, none⟩) hgl1 _) (a := ⟨g + 1, 2, none⟩) hgl1 _) hzz, own_base (ownsRow_setCell_below (ownsRow_setCell_below (ownsRow_setCell_below O12 (a := ⟨g + 1, 0, none⟩) hgl1 _) (a := ⟨g + 1, 1, none⟩) hgl1 _) (a := ⟨g + 1, 2, none⟩) hgl1 _) hzz⟩, bset3 (HB0.out.trans (HX2.out.mono hzz)) (by rw [Hg.out]; omega)⟩

end Go.Proofs.Ytockfiobhmohnaa

namespace Go.Proofs.Ytockfiobhmohnaa
open Go.RowKit Go.Maps Kb Wb

set_option maxRecDepth 100000 in
set_option maxHeartbeats 1000000 in
theorem clone_ints {w : World} {A : Option Addr} {n c : Nat} {X : Nat → Int} (hA : ∀ i, i < n → ∃ ad, A = some ad ∧ w.cell? (ad.add i) = some (.int .i64 (X i))) (hn : n ≤ 1000) :
    Calls Try.prog 60 #[.slice A n c] w fun e w' => ∃ v, e = .returned v ∧ w'.ownsRow w.heap.size 3 1 v n (ints X n) ∧ Below w.heap.size w w' := by
  rcases A with _ | ad
  · have h0 : n = 0 := by
      rcases Nat.eq_zero_or_pos n with h | h
      · exact h
      · obtain ⟨ad, e, _⟩ := hA 0 h
        cases e
    subst h0
    have hnil := fun w => Lib.run_eql_slice_nil (P := Try.prog) w 27 3 none 0 c 0 0 Try.underlying27
    simp only [Option.isNone_none] at hnil
    go_enter Try.func60, Try.ntmps60
    go_wp2
    go_ret
    exact ⟨_, rfl, ⟨rfl, .inl ⟨rfl, rfl⟩⟩, Below.refl _ _⟩
  · obtain ⟨i0, hi0, hz0, hz1, hz2⟩ : ∃ i, Try.prog.info? 3 = some i ∧ i.zero = some (.int .i64 0) ∧ i.size = 1 ∧ i.bytes = 8 := by
      have := info_int
      cases hx : Try.prog.info? 3 with
      | none => rw [hx] at this; cases this
      | some i => rw [hx] at this; simp at this; exact ⟨i, rfl, this.1, this.2.1, this.2.2⟩
    have hnil := fun w => Lib.run_eql_slice_nil (P := Try.prog) w 27 3 (some ad) n c 0 0 Try.underlying27
    simp only [Option.isNone_some] at hnil
    have Hc := hid (show ∀ j u, (ints X n)[j]? = some u → w.cell? (ad.add j) = some u from fun j u hu => by
      have hj : j < n := by have := (List.getElem?_eq_some_iff.1 hu).1; rwa [ints_len] at this
      rw [ints_get _ hj] at hu
      obtain ⟨ad', e, h⟩ := hA j hj
      injection e with e
      subst e
      rw [h]; exact hu)
    clear hA
    go_enter Try.func60, Try.ntmps60
    go_wp2_with (at_builtin; refine wpList_append_own _ rfl (.tmp 5) (.tmp 6) 27 rfl w.heap.size 3 i0 (.int .i64 0) 1 8 Try.underlying27 hi0 hz0 hz1 hz2 rfl (by decide) (.slice (some ⟨w.heap.size, 0, none⟩) 0 0) 0 [] rfl (World.ownsRow_made _ _ 0 (Nat.le_refl _) (by unfold maxLen; omega) rfl) ad n c (ints X n) rfl (by rw [ints_len, Nat.mul_one]) (fun j u hu => Lib.cell?_alloc_some _ (Hc.out j u hu)) (ints_one _ _) (by unfold maxLen; omega) (by omega) (by simp) ?_)
    intro v' w1 hown hgrow hnn
    have hbel := ((Below.refl w.heap.size w).alloc (Nat.le_refl _) (.cells #[] 3)).grown hgrow (by simp) (fun k hk => by simp [Value.ownBlock] at hk; omega)
    have hown : w1.ownsRow w.heap.size 3 1 v' n (ints X n) := by simpa using hown
    clear hgrow hnn hnil
    go_wp2
    go_ret
    exact ⟨v', rfl, hown, hbel⟩

set_option maxRecDepth 100000 in
set_option maxHeartbeats 1000000 in
theorem clone_bools {w : World} {A : Option Addr} {n c : Nat} {X : Nat → Bool} (hA : ∀ i, i < n → ∃ ad, A = some ad ∧ w.cell? (ad.add i) = some (.bool (X i))) (hn : n ≤ 1000) :
    Calls Try.prog 61 #[.slice A n c] w fun e w' => ∃ v, e = .returned v ∧ w'.ownsRow w.heap.size 4 1 v n (bools X n) ∧ Below w.heap.size w w' := by
  rcases A with _ | ad
  · have h0 : n = 0 := by
      rcases Nat.eq_zero_or_pos n with h | h
      · exact h
      · obtain ⟨ad, e, _⟩ := hA 0 h
        cases e
    subst h0
    have hnil := fun w => Lib.run_eql_slice_nil (P := Try.prog) w 28 4 none 0 c 0 0 Try.underlying28
    simp only [Option.isNone_none] at hnil
    go_enter Try.func61, Try.ntmps61
    go_wp2
    go_ret
    exact ⟨_, rfl, ⟨rfl, .inl ⟨rfl, rfl⟩⟩, Below.refl _ _⟩
  · obtain ⟨i0, hi0, hz0, hz1, hz2⟩ : ∃ i, Try.prog.info? 4 = some i ∧ i.zero = some (.bool false) ∧ i.size = 1 ∧ i.bytes = 1 := by
      have := info_bool
      cases hx : Try.prog.info? 4 with
      | none => rw [hx] at this; cases this
      | some i => rw [hx] at this; simp at this; exact ⟨i, rfl, this.1, this.2.1, this.2.2⟩
    have hnil := fun w => Lib.run_eql_slice_nil (P := Try.prog) w 28 4 (some ad) n c 0 0 Try.underlying28
    simp only [Option.isNone_some] at hnil
    have Hc := hid (show ∀ j u, (bools X n)[j]? = some u → w.cell? (ad.add j) = some u from fun j u hu => by
      have hj : j < n := by have := (List.getElem?_eq_some_iff.1 hu).1; rwa [bools_len] at this
      rw [bools_get _ hj] at hu
      obtain ⟨ad', e, h⟩ := hA j hj
      injection e with e
      subst e
      rw [h]; exact hu)
    clear hA
    go_enter Try.func61, Try.ntmps61
    go_wp2_with (at_builtin; refine wpList_append_own _ rfl (.tmp 5) (.tmp 6) 28 rfl w.heap.size 4 i0 (.bool false) 1 1 Try.underlying28 hi0 hz0 hz1 hz2 rfl (by decide) (.slice (some ⟨w.heap.size, 0, none⟩) 0 0) 0 [] rfl (World.ownsRow_made _ _ 0 (Nat.le_refl _) (by unfold maxLen; omega) rfl) ad n c (bools X n) rfl (by rw [bools_len, Nat.mul_one]) (fun j u hu => Lib.cell?_alloc_some _ (Hc.out j u hu)) (bools_one _ _) (by unfold maxLen; omega) (by omega) (by simp) ?_)
    intro v' w1 hown hgrow hnn
    have hbel := ((Below.refl w.heap.size w).alloc (Nat.le_refl _) (.cells #[] 4)).grown hgrow (by simp) (fun k hk => by simp [Value.ownBlock] at hk; omega)
    have hown : w1.ownsRow w.heap.size 4 1 v' n (bools X n) := by simpa using hown
    clear hgrow hnn hnil
    go_wp2
    go_ret
    exact ⟨v', rfl, hown, hbel⟩

end Go.Proofs.Ytockfiobhmohnaa

namespace Go.Proofs.Ytockfiobhmohnaa
open Go.RowKit Go.Maps Kb Wb

section
variable {w : World} {B0 B1 : Nat} {N : Nd} {W : Wd}
set_option maxRecDepth 100000 in
set_option maxHeartbeats 4000000 in
theorem rStarted_any {B2 u : Nat} {T : Tn} {P : Option Addr} (hT : Tl w B2 P T.p T.tm T.tl T.tp) (hp9 : T.p ≤ 9223372036854775807) (h : Nt w B0 N) (hs : Nsm N) (hw : Wt w B1 W) :
    Calls Try.prog 11 #[.agg #[.slice N.A N.n N.c, .slice N.M N.m N.d, .slice N.K N.k N.e], .agg #[.int .i64 W.min, .slice W.A W.n W.c, .slice W.M W.m W.d], .slice P T.p u] w fun e w' => ∃ r : Int, e = .returned (.int .i64 r) ∧ Hid (Se N W T r) ∧ Below w.heap.size w w' := by
  obtain ⟨g, hg⟩ : ∃ g, w.heap.size = g := ⟨_, rfl⟩
  have hb0 := ((Below.refl w.heap.size w).alloc (Nat.le_refl _) (.cells #[.slice N.A N.n N.c, .slice N.M N.m N.d, .slice N.K N.k N.e] 26)).alloc (by simp) (.cells #[.int .i64 W.min, .slice W.A W.n W.c, .slice W.M W.m W.d] 30)
  have K1 := (Nb.new h hg).below (alo (o := .cells #[.int .i64 W.min, .slice W.A W.n W.c, .slice W.M W.m W.d] 30))
  have V1 : Wx _ (g + 1) B1 W := ⟨Bk.of_alloc (w.alloc (.cells #[.slice N.A N.n N.c, .slice N.M N.m N.d, .slice N.K N.k N.e] 26)) (.cells #[.int .i64 W.min, .slice W.A W.n W.c, .slice W.M W.m W.d] 30) (by simp [hg]), hw.below hb0⟩
  have T1 := hT.below hb0
  clear hT
  go_enter Try.func11, Try.ntmps11
  go_wp2_with fail
  generalize (w.alloc (.cells #[.slice N.A N.n N.c, .slice N.M N.m N.d, .slice N.K N.k N.e] 26)).alloc (.cells #[.int .i64 W.min, .slice W.A W.n W.c, .slice W.M W.m W.d] 30) = W0 at *
  have HB0 := hid hb0
  clear hb0 h hg hw
  refine (rCheckNetwork_any K1.a hs).mono ?_
  rintro e w2 ⟨q, rfl, hq, hb⟩
  have K2 := K1.below hb
  have V2 := V1.below hb
  have T2 := T1.below hb
  have HB2 := hid (bthen HB0.out hb (Nat.le_refl _))
  clear hb K1 V1
  by_cases h0 : q = 0
  · subst h0
    obtain ⟨x0, x1, x2⟩ := K2.cells
    obtain ⟨y0, y1, y2⟩ := V2.cells
    go_wp2_with fail
    refine (rCheckWater_any hq hs K2.a V2.a).mono ?_
    rintro e w3 ⟨r, rfl, hr, hb⟩
    have K3 := K2.below hb
    have HB3 := hid (bthen HB2.out hb (Nat.le_refl _))
    have HE := hid (hr.out.we hq.out)
    have T3 := T2.below hb
    clear hb K2 V2 x0 x1 x2 y0 y1 y2
    by_cases h1 : r = 0
    · subst h1
      obtain ⟨x0, x1, x2⟩ := K3.cells
      go_wp2_with fail
      refine (rTurns_any K3.a hs T3 hp9).mono ?_
      rintro e w4 ⟨s, rfl, ht, hb⟩
      have HF := hid (show Se N W T s from ⟨0, HE.out, .inr ⟨rfl, ht.out⟩⟩)
      have HB4 := hid (bthen HB3.out hb (Nat.le_refl _))
      clear hb
      go_wp2
      go_ret
      exact ⟨s, rfl, HF, HB4.out⟩
    · have hr1 : (r != 0) = true := by rw [bne_iff_ne]; exact h1
      have HNE := hid h1
      clear h1
      go_wp2
      go_ret
      exact ⟨r, rfl, hid ⟨r, HE.out, .inl ⟨HNE.out, rfl⟩⟩, HB3.out⟩
  · have hq1 : (q != 0) = true := by rw [bne_iff_ne]; exact h0
    have HE := hid (show We N W q from ⟨q, hq.out, .inl ⟨h0, rfl⟩⟩)
    have HNE := hid h0
    clear h0
    go_wp2
    go_ret
    exact ⟨q, rfl, hid ⟨q, HE.out, .inl ⟨HNE.out, rfl⟩⟩, HB2.out⟩

/-- A run in its box: what it is made of, its litres and truth values its own. -/
structure Rw (w : World) (g B : Nat) (N : Nd) (t : Int) (A : Option Addr) (c : Nat) (M : Option Addr) (d : Nat) (X : Nat → Int) (Y : Nat → Bool) (P : Option Addr) (p u : Nat) : Prop where
  b : Bk w g (.cells #[.slice N.A N.n N.c, .slice N.M N.m N.d, .slice N.K N.k N.e, .int .i64 t, .slice A N.n c, .slice M N.k d, .slice P p u] 82 (0, 0))
  x : w.ownsRow B 3 1 (.slice A N.n c) N.n (ints X N.n)
  y : w.ownsRow B 4 1 (.slice M N.k d) N.k (bools Y N.k)
  g : B ≤ g
theorem fill12 {w : World} {g : Nat} {T : TypeId} {z0 z1 z2 u1 u2 : Value} (q : Bk w g (.cells #[z0, z1, z2] T (0, 0))) : Bk ((w.setCell ⟨g, 1, none⟩ u1).setCell ⟨g, 2, none⟩ u2) g (.cells #[z0, u1, u2] T (0, 0)) := by
  unfold Bk at q ⊢
  simp only [World.setCell, Array.getElem?_modify, q]
  simp
theorem off_store {w : World} {g k i j : Nat} {v x : Value} (h : w.cell? ⟨g, j, none⟩ = some x) (hne : g ≠ k) : (w.setCell ⟨k, i, none⟩ v).cell? ⟨g, j, none⟩ = some x := by
  rw [← h]
  exact World.cell?_of_block (Below.heap_setCell _ _ _ _ hne)
theorem Wt.xs {w : World} {B : Nat} {W : Wd} (h : Wt w B W) : ∀ i, i < W.n → ∃ ad, W.A = some ad ∧ w.cell? (ad.add i) = some (.int .i64 (W.X i)) := fun i hi => by
  obtain ⟨ad, e, _, h1⟩ := h.x i hi
  exact ⟨ad, e, h1⟩
theorem Wt.ys {w : World} {B : Nat} {W : Wd} (h : Wt w B W) : ∀ i, i < W.m → ∃ ad, W.M = some ad ∧ w.cell? (ad.add i) = some (.bool (W.Y i)) := fun i hi => by
  obtain ⟨ad, e, _, h1⟩ := h.y i hi
  exact ⟨ad, e, h1⟩
theorem own_slice {w : World} {base n : Nat} {T : TypeId} {v : Value} {xs : List Value} (h : w.ownsRow base T 1 v n xs) : ∃ A c, v = .slice A n c := by
  rcases h.2 with ⟨hv, hn⟩ | ⟨g, cap, cur, hv, _⟩
  · exact ⟨none, 0, by rw [hv, hn]⟩
  · exact ⟨_, _, hv⟩
set_option maxRecDepth 100000 in
set_option maxHeartbeats 4000000 in
theorem newRun_err {w : World} {B0 B1 B2 u : Nat} {N : Nd} {W : Wd} {T : Tn} {P : Option Addr} {q : Int} (hq : Hid (Se N W T q)) (hq0 : q ≠ 0) (hT : Tl w B2 P T.p T.tm T.tl T.tp) (hp9 : T.p ≤ 9223372036854775807) (h : Nt w B0 N) (hs : Nsm N) (hw : Wt w B1 W) :
    Calls Try.prog 34 #[.agg #[.slice N.A N.n N.c, .slice N.M N.m N.d, .slice N.K N.k N.e], .agg #[.int .i64 W.min, .slice W.A W.n W.c, .slice W.M W.m W.d], .slice P T.p u] w fun e w' => e = .returned (.tuple #[.pointer none, .int .i64 q]) ∧ Below w.heap.size w w' := by
  obtain ⟨q1, hq1, hqq⟩ := hq.out
  have Hq1 := hid hq1
  have hqn : (q != 0) = true := by rw [bne_iff_ne]; exact hq0
  obtain ⟨g, hg⟩ : ∃ g, w.heap.size = g := ⟨_, rfl⟩
  have hb0 := ((Below.refl w.heap.size w).alloc (Nat.le_refl _) (.cells #[.slice N.A N.n N.c, .slice N.M N.m N.d, .slice N.K N.k N.e] 26)).alloc (by simp) (.cells #[.int .i64 W.min, .slice W.A W.n W.c, .slice W.M W.m W.d] 30)
  have K1 := (Nb.new h hg).below (alo (o := .cells #[.int .i64 W.min, .slice W.A W.n W.c, .slice W.M W.m W.d] 30))
  have V1 : Wx _ (g + 1) B1 W := ⟨Bk.of_alloc (w.alloc (.cells #[.slice N.A N.n N.c, .slice N.M N.m N.d, .slice N.K N.k N.e] 26)) (.cells #[.int .i64 W.min, .slice W.A W.n W.c, .slice W.M W.m W.d] 30) (by simp [hg]), hw.below hb0⟩
  have T1 := hT.below hb0
  clear hq1 hT hw h
  go_enter Try.func34, Try.ntmps34
  go_wp2_with fail
  generalize (w.alloc (.cells #[.slice N.A N.n N.c, .slice N.M N.m N.d, .slice N.K N.k N.e] 26)).alloc (.cells #[.int .i64 W.min, .slice W.A W.n W.c, .slice W.M W.m W.d] 30) = W0 at *
  have HB0 := hid hb0
  clear hb0 hg
  refine (waterError_is Hq1 K1.a hs V1.a).mono ?_
  rintro e w2 ⟨rfl, hb⟩
  have K2 := K1.below hb
  have T2 := T1.below hb
  have HB2 := hid (bthen HB0.out hb (Nat.le_refl _))
  clear hb K1 V1 T1
  rcases hqq with ⟨_, rfl⟩ | ⟨rfl, hte⟩
  · clear hq0
    go_wp2
    go_ret2
    exact ⟨rfl, HB2.out⟩
  · obtain ⟨x0, x1, x2⟩ := K2.cells
    have Hte := hid hte
    clear hte
    go_wp2_with fail
    refine (turnsError_any K2.a hs T2 hp9).mono ?_
    rintro e w4 ⟨s, rfl, ht, hb⟩
    obtain rfl := Hte.out.same ht.out
    have HB4 := hid (bthen HB2.out hb (Nat.le_refl _))
    clear hb hq0 ht
    go_wp2
    go_ret2
    exact ⟨rfl, HB4.out⟩

set_option maxRecDepth 100000 in
set_option maxHeartbeats 4000000 in
theorem newRun_ok {w : World} {B0 B1 B2 u : Nat} {N : Nd} {W : Wd} {T : Tn} {P : Option Addr} (hq : Hid (Se N W T 0)) (hT : Tl w B2 P T.p T.tm T.tl T.tp) (hp9 : T.p ≤ 9223372036854775807) (h : Nt w B0 N) (hs : Nsm N) (hw : Wt w B1 W) :
    Calls Try.prog 34 #[.agg #[.slice N.A N.n N.c, .slice N.M N.m N.d, .slice N.K N.k N.e], .agg #[.int .i64 W.min, .slice W.A W.n W.c, .slice W.M W.m W.d], .slice P T.p u] w fun e w' => ∃ g A c M d, e = .returned (.tuple #[.pointer (some ⟨g, 0, none⟩), .int .i64 0]) ∧ Rw w' g w.heap.size N W.min A c M d W.X W.Y P T.p u ∧ Below w.heap.size w w' := by
  obtain ⟨q1, hq1, hqq⟩ := hq.out
  obtain ⟨rfl, hte⟩ : q1 = 0 ∧ Te N T 0 := by
    rcases hqq with ⟨h, e⟩ | h
    · exact absurd e.symm h
    · exact h
  have HF := hid (Fit.of hq1)
  have Hq1 := hid hq1
  have Hte := hid hte
  clear hqq hte
  have hn9 : W.n ≤ 1000 := by rw [HF.out.n]; exact hs.n
  have hm9 : W.m ≤ 1000 := by rw [HF.out.m]; exact hs.k
  obtain ⟨g, hg⟩ : ∃ g, w.heap.size = g := ⟨_, rfl⟩
  have hb0 := ((Below.refl w.heap.size w).alloc (Nat.le_refl _) (.cells #[.slice N.A N.n N.c, .slice N.M N.m N.d, .slice N.K N.k N.e] 26)).alloc (by simp) (.cells #[.int .i64 W.min, .slice W.A W.n W.c, .slice W.M W.m W.d] 30)
  have K1 := (Nb.new h hg).below (alo (o := .cells #[.int .i64 W.min, .slice W.A W.n W.c, .slice W.M W.m W.d] 30))
  have V1 : Bk _ (g + 1) _ := Bk.of_alloc (w.alloc (.cells #[.slice N.A N.n N.c, .slice N.M N.m N.d, .slice N.K N.k N.e] 26)) (.cells #[.int .i64 W.min, .slice W.A W.n W.c, .slice W.M W.m W.d] 30) (by simp [hg])
  have a1 := hw.below hb0
  have T1 := hT.below hb0
  clear hq1 hT hw h
  go_enter Try.func34, Try.ntmps34
  go_wp2_with fail
  generalize (w.alloc (.cells #[.slice N.A N.n N.c, .slice N.M N.m N.d, .slice N.K N.k N.e] 26)).alloc (.cells #[.int .i64 W.min, .slice W.A W.n W.c, .slice W.M W.m W.d] 30) = W0 at *
  have HB0 := hid hb0
  have Hg := hid hg
  clear hb0 hg
  refine (waterError_is Hq1 K1.a hs a1).mono ?_
  rintro e w2 ⟨rfl, hb⟩
  have K2 := K1.below hb
  have V2 := V1.step hb
  have T2 := T1.below hb
  have a2 := a1.below hb
  have HB2 := hid (bthen HB0.out hb (Nat.le_refl _))
  clear hb K1 V1 T1 a1
  obtain ⟨x0, x1, x2⟩ := K2.cells
  go_wp2_with fail
  refine (turnsError_any K2.a hs T2 hp9).mono ?_
  rintro e w4 ⟨s, rfl, ht, hb⟩
  obtain rfl := Hte.out.same ht.out
  have K4 := K2.below hb
  have V4 := V2.step hb
  have a4 := a2.below hb
  have HB4 := hid (bthen HB2.out hb (Nat.le_refl _))
  clear hb ht K2 V2 T2 a2 x0 x1 x2
  obtain ⟨x0, x1, x2⟩ := K4.cells
  obtain ⟨y0, y1, y2⟩ := V4.c3
  go_wp2_with fail
  clear x0 x1 x2 y0 y1 y2
  have D0 := V4.step (dr0 (W := w4))
  have N0 := K4.below (dr0 (W := w4))
  have c0 := a4.below (dr0 (W := w4))
  have HB0d := hid (bthen HB4.out (dr0 (W := w4)) (Nat.le_refl _))
  obtain ⟨y0, y1, y2⟩ := D0.c3
  clear a4 V4 K4
  go_region_with (first
    | (go_at_call 60; (with_reducible refine (clone_ints (X := W.X) c0.xs hn9).mono ?_); rintro e w5 ⟨a, rfl, hox, hb5⟩; obtain ⟨A, c, rfl⟩ := own_slice hox; have D1 := D0.step hb5; have N1 := N0.below hb5; have c1 := c0.below hb5; obtain ⟨y0, y1, y2⟩ := D1.c3)
    | (go_at_call 61; (with_reducible refine (clone_bools (X := W.Y) c1.ys hm9).mono ?_); rintro e w6 ⟨a, rfl, hoy, hb6⟩; obtain ⟨M, d, rfl⟩ := own_slice hoy; have D2 := D1.step hb6; have N2 := N1.below hb6; obtain ⟨y0, y1, y2⟩ := D2.c3; have f0 := Bk.fz D2 0; have f1 := Bk.fz D2 1; have f2 := Bk.fz D2 2))
  all_goals
    have hl := D2.lt
    have hg4 : g + 1 < w4.drew.heap.size := D0.lt
    have J := fill12 (u1 := .slice A W.n c) (u2 := .slice M W.m d) D2
    have NJ := N2.cells
    obtain ⟨z0, z1, z2⟩ := NJ
    have z0 := off_store (k := g + 1) (i := 2) (v := .slice M W.m d) (off_store (k := g + 1) (i := 1) (v := .slice A W.n c) z0 (by omega)) (by omega)
    have z1 := off_store (k := g + 1) (i := 2) (v := .slice M W.m d) (off_store (k := g + 1) (i := 1) (v := .slice A W.n c) z1 (by omega)) (by omega)
    have z2 := off_store (k := g + 1) (i := 2) (v := .slice M W.m d) (off_store (k := g + 1) (i := 1) (v := .slice A W.n c) z2 (by omega)) (by omega)
    have ox := ownsRow_setCell_below (ownsRow_setCell_below (own_below hox hb6) (a := ⟨g + 1, 1, none⟩) hg4 (.slice A W.n c)) (a := ⟨g + 1, 2, none⟩) hg4 (.slice M W.m d)
    have oy := ownsRow_setCell_below (ownsRow_setCell_below hoy (a := ⟨g + 1, 1, none⟩) (Nat.lt_of_lt_of_le hg4 hb5.size) (.slice A W.n c)) (a := ⟨g + 1, 2, none⟩) (Nat.lt_of_lt_of_le hg4 hb5.size) (.slice M W.m d)
    have hB6 := hid (((bthen (bthen HB0d.out hb5 (Nat.le_refl _)) hb6 (Nat.le_refl _)).setCell (p := ⟨g + 1, 1, none⟩) (by rw [Hg.out]; show g ≤ g + 1; omega) (.slice A W.n c)).setCell (p := ⟨g + 1, 2, none⟩) (by rw [Hg.out]; show g ≤ g + 1; omega) (.slice M W.m d))
    have Hox := hid ox
    have Hoy := hid oy
    have Hh5 := hid hb5.size
    clear y0 y1 y2 f0 f1 f2 hox hoy hb5 hb6 D0 D1 D2 N0 N1 N2 c0 c1 ox oy hl
    obtain ⟨y0, y1, y2⟩ := J.c3
    generalize ((w6.setCell ⟨g + 1, 1, none⟩ (.slice A W.n c)).setCell ⟨g + 1, 2, none⟩ (.slice M W.m d)) = w7 at *
    have hn := HF.out.n
    have hm := HF.out.m
    go_wp2_with fail
    go_ret2
    have hz : w.heap.size ≤ w7.heap.size := hB6.out.size
    have hz4 : w.heap.size ≤ w4.drew.heap.size := HB0d.out.size
    exact ⟨_, A, c, M, d, rfl, ⟨Bk.of_alloc w7 _ rfl, hn ▸ own_base (Hox.out.alloc _) hz4, hm ▸ own_base (Hoy.out.alloc _) (Nat.le_trans hz4 Hh5.out), hz⟩, bthen hB6.out alo (Nat.le_of_eq rfl)⟩
end

end Go.Proofs.Ytockfiobhmohnaa

