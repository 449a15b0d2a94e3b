/- Networks: Copy of the reference for every state whose lists fit each other. -/
import Derived.Test.YtockfiobhmohnaaGl
namespace Go.Proofs.Ytockfiobhmohnaa
open Go.RowKit Go.Maps Kb Wb

section
variable {P : Program} (w : World)
theorem run_append_zero (t ty e : TypeId) (i : TypeInfo) (ht : P.underlying t = some (.slice e)) (hi : P.info? e = some i) (k c : Nat) (A : Option Addr) (hA : A = none → True) :
    (Builtin.append_ #[t, t] ty #[.slice (some ⟨k, 0, none⟩) 0 0, .slice A 0 c]).run P w = .ok (.slice (some ⟨k, 0, none⟩) 0 0) w := by
  cases A <;> simp [Builtin.append_, run_underlying ht, sizeOf, typeInfo, hi, Builtin.lenOf, Builtin.firstCells, loadCells, loadCellsFrom, storeCells]
theorem step_append_zero {ops : Array Oper} {o : Oper} {a : Act} {K : Act → World → Prop} {Q : Exit → Act → World → Prop} {E : Prop} (hgd : o.guard = none) (s x : Operand) (t : TypeId)
    (ho : o.op = .call { callee := .builtin .append, args := #[s, x], argTypes := #[t, t] })
    (e : TypeId) (i : TypeInfo) (ht : P.underlying t = some (.slice e)) (hi : P.info? e = some i) (k c : Nat) (A : Option Addr) (hs : a.eval s = .slice (some ⟨k, 0, none⟩) 0 0) (hx : a.eval x = .slice A 0 c)
    (h : K (a.put o.dst (.slice (some ⟨k, 0, none⟩) 0 0)) w) :
    if Region.wanted o (yielded ops a.tmps) = true then Oper.wp P o a w K Q else E := by
  have hw : Region.wanted o (yielded ops a.tmps) = true := by simp [Region.wanted, hgd]
  rw [if_pos hw]
  unfold Oper.wp execOp
  simp only [ho, resolve, invoke, builtin, Sem.run_bind, Sem.run_pure, Result.andThen_ok, List.map_toArray, List.map_cons, List.map_nil, hs, hx, run_append_zero (P := P) w t o.type e i ht hi k c A (fun _ => trivial)]
  exact h
end

set_option maxRecDepth 100000 in
set_option maxHeartbeats 16000000 in
theorem Copy_n0 {w : World} {B1 : Nat} {W : Wd} (hw : Wt w B1 W) (hn : 0 < W.n) (hm : W.m = 0) (hn9 : W.n ≤ 1000) :
    Calls Try.prog 41 #[.agg #[.int .i64 W.min, .slice W.A W.n W.c, .slice W.M W.m W.d]] w fun e w' => ∃ A c M d, e = .returned (.agg #[.int .i64 W.min, .slice A W.n c, .slice M W.m d]) ∧ Cpy w' w.heap.size W A c M d ∧ Below w.heap.size w w' := by
  obtain ⟨i0, hi0, hz0, hz1, hz2⟩ : ∃ i, Try.prog.info? 3 = some i ∧ i.zero = some (.int .i64 0) ∧ i.size = 1 ∧ i.bytes = 8 := by
    have := info_int
    cases hx : Try.prog.info? 3 with
    | none => rw [hx] at this; cases this
    | some i => rw [hx] at this; simp at this; exact ⟨i, rfl, this.1, this.2.1, this.2.2⟩
  obtain ⟨b0, bi0, bz0, bz1, bz2⟩ : ∃ i, Try.prog.info? 4 = some i ∧ i.zero = some (.bool false) ∧ i.size = 1 ∧ i.bytes = 1 := by
    have := info_bool
    cases hx : Try.prog.info? 4 with
    | none => rw [hx] at this; cases this
    | some i => rw [hx] at this; simp at this; exact ⟨i, rfl, this.1, this.2.1, this.2.2⟩
  obtain ⟨g, hg⟩ : ∃ g, w.heap.size = g := ⟨_, rfl⟩
  obtain ⟨ax, hax, -, -⟩ := hw.x 0 hn
  have Hax := hid hax
  have Hm := hid hm
  clear hax hm
  have hb0 := ((Below.refl w.heap.size w).alloc (Nat.le_refl _) (.cells #[.int .i64 W.min, .slice W.A W.n W.c, .slice W.M W.m W.d] 30)).alloc (by simp) (.cells #[.int .i64 0, .slice none 0 0, .slice none 0 0] 30)
  have K0 := (Bk.of_alloc w (.cells #[.int .i64 W.min, .slice W.A W.n W.c, .slice W.M W.m W.d] 30) hg).alloc (.cells #[.int .i64 0, .slice none 0 0, .slice none 0 0] 30)
  have R0 : Bk _ (g + 1) _ := Bk.of_alloc (w.alloc (.cells #[.int .i64 W.min, .slice W.A W.n W.c, .slice W.M W.m W.d] 30)) (.cells #[.int .i64 0, .slice none 0 0, .slice none 0 0] 30) (by simp [hg])
  have V0 := (hw.below (alo (o := .cells #[.int .i64 W.min, .slice W.A W.n W.c, .slice W.M W.m W.d] 30))).below (alo (o := .cells #[.int .i64 0, .slice none 0 0, .slice none 0 0] 30))
  have hs0 : ((w.alloc (.cells #[.int .i64 W.min, .slice W.A W.n W.c, .slice W.M W.m W.d] 30)).alloc (.cells #[.int .i64 0, .slice none 0 0, .slice none 0 0] 30)).heap.size = g + 2 := by simp [hg]
  go_enter Try.func41, Try.ntmps41
  go_upto_region 1 with fail
  generalize (w.alloc (.cells #[.int .i64 W.min, .slice W.A W.n W.c, .slice W.M W.m W.d] 30)).alloc (.cells #[.int .i64 0, .slice none 0 0, .slice none 0 0] 30) = W0 at *
  have HB0 := hid hb0
  have Hg := hid hg
  have Hs0 := hid hs0
  have hgl : g < W0.heap.size := by omega
  have hgl1 : g + 1 < W0.heap.size := by omega
  obtain ⟨y0, y1, y2⟩ := K0.c3
  have hax := Hax.out
  rw [hax] at y1
  rw [Hm.out] at y2
  clear hax
  clear hb0 hg hw
  have VD := fun (w : World) (h : Below W0.heap.size W0 w) => V0.below h
  have KC := hid (fun (w : World) (h : Below W0.heap.size W0 w) => (show w.cell? ⟨g, 0, none⟩ = some (.int .i64 W.min) ∧ w.cell? ⟨g, 1, none⟩ = some (.slice (some ax) W.n W.c) ∧ w.cell? ⟨g, 2, none⟩ = some (.slice W.M 0 W.d) from by
    obtain ⟨z0, z1, z2⟩ := (K0.step h).c3
    rw [Hax.out] at z1
    rw [Hm.out] at z2
    exact ⟨z0, z1, z2⟩))
  have RC := hid (fun (w : World) (h : Below W0.heap.size W0 w) => R0.step h)
  have KB := hid (fun (w : World) (h : Bk w g (.cells #[.int .i64 W.min, .slice W.A W.n W.c, .slice W.M W.m W.d] 30)) => (show w.cell? ⟨g, 0, none⟩ = some (.int .i64 W.min) ∧ w.cell? ⟨g, 1, none⟩ = some (.slice (some ax) W.n W.c) ∧ w.cell? ⟨g, 2, none⟩ = some (.slice W.M 0 W.d) from by
    obtain ⟨z0, z1, z2⟩ := h.c3
    rw [Hax.out] at z1
    rw [Hm.out] at z2
    exact ⟨z0, z1, z2⟩))
  have HK0 := hid (fun (w : World) (h : Below W0.heap.size W0 w) => K0.step h)
  have hne1 : g ≠ g + 1 := by omega
  clear K0 R0 V0
  go_region_held3 (fun w' => w'.cell? ⟨g, 0, none⟩ = some (.int .i64 W.min) ∧ w'.cell? ⟨g, 1, none⟩ = some (.slice (some ax) W.n W.c) ∧ w'.cell? ⟨g, 2, none⟩ = some (.slice W.M 0 W.d)) (first | with_reducible exact KB.out _ (bk_set (bk_set (bk_set (HK0.out _ HX2.out) hne1) hne1) hne1) | (with_reducible refine KC.out _ ?_; repeat' (first | with_reducible exact dr0 | with_reducible exact dr1 | with_reducible exact dr2 | with_reducible exact HX2.out | with_reducible exact HX1.out | with_reducible exact (bth HX1.out al1 HX1.out.size) | with_reducible exact (bth HX1.out al2 HX1.out.size) | with_reducible apply Below.setCell | (simpa using hgl) | (simp; omega) | omega))) (first
    | (refine step_append_lies _ (by rfl) _ _ _ (by rfl) W0.heap.size 3 i0 (.int .i64 0) 1 8 Try.underlying27 hi0 hz0 hz1 hz2 rfl (by decide) (.slice (some ⟨g + 2, 0, none⟩) 0 0) 0 [] (by rfl) (own_empty (bk_drew (Bk.of_alloc W0 (.cells #[] 3) hs0)) (by omega)) ax W.n W.c (ints W.X W.n) (by rfl) (by rw [ints_len, Nat.mul_one]) (ints_src (VD _ dr1) Hax.out) (ints_one _ _) hn (by unfold maxLen; omega) (by omega) dr1.size _ rfl ?_; intro g1 cap1 w1 hown1 hgrow1 hat1 hlt1; have HX1 := hid (lies_below dr1 hgrow1 rfl (show W0.heap.size ≤ g + 2 by omega) dr1.size); have l1 : g < w1.heap.size := (by have := HX1.out.size; omega); have l2 : g + 1 < w1.heap.size := (by have := HX1.out.size; omega); have O8 := hown1)
    | (refine step_append_lies _ (by rfl) _ _ _ (by rfl) W0.heap.size 3 i0 (.int .i64 0) 1 8 Try.underlying27 hi0 hz0 hz1 hz2 rfl (by decide) (.slice (some ⟨g + 2, 0, none⟩) 0 0) 0 [] (by rfl) (own_empty (bk_drew ((Bk.of_alloc W0 (.cells #[] 3) hs0).alloc (.cells #[] 4))) (by omega)) ax W.n W.c (ints W.X W.n) (by rfl) (by rw [ints_len, Nat.mul_one]) (ints_src (VD _ dr2) Hax.out) (ints_one _ _) hn (by unfold maxLen; omega) (by omega) dr2.size _ rfl ?_; intro g1 cap1 w1 hown1 hgrow1 hat1 hlt1; have HX1 := hid (lies_below dr2 hgrow1 rfl (show W0.heap.size ≤ g + 2 by omega) dr2.size); have l1 : g < w1.heap.size := (by have := HX1.out.size; omega); have l2 : g + 1 < w1.heap.size := (by have := HX1.out.size; omega); have O8 := hown1; have E1 := bk_lies (k := g + 2) (bk_drew (Bk.of_alloc (W0.alloc (.cells #[] 3)) (.cells #[] 4) (g := g + 3) (by simp [hs0]))) hgrow1 rfl (by omega); have hne : g1 ≠ g + 3 := (by rcases hat1 with h | h; (have h : some (g + 2) = some g1 := h; injection h with h; omega); (simp [hs0] at h; omega)))
    | (refine step_append_lies _ (by rfl) _ _ _ (by rfl) W0.heap.size 3 i0 (.int .i64 0) 1 8 Try.underlying27 hi0 hz0 hz1 hz2 rfl (by decide) (.slice (some ⟨g + 3, 0, none⟩) 0 0) 0 [] (by rfl) (own_empty (bk_drew (Bk.of_alloc (W0.alloc (.cells #[] 4)) (.cells #[] 3) (g := g + 3) (by simp [hs0]))) (by omega)) ax W.n W.c (ints W.X W.n) (by rfl) (by rw [ints_len, Nat.mul_one]) (ints_src (VD _ dr2) Hax.out) (ints_one _ _) hn (by unfold maxLen; omega) (by omega) dr2.size _ rfl ?_; intro g1 cap1 w1 hown1 hgrow1 hat1 hlt1; have HX1 := hid (lies_below dr2 hgrow1 rfl (show W0.heap.size ≤ g + 3 by omega) dr2.size); have l1 : g < w1.heap.size := (by have := HX1.out.size; omega); have l2 : g + 1 < w1.heap.size := (by have := HX1.out.size; omega); have O8 := hown1; have E1 := bk_lies (k := g + 3) (bk_drew ((Bk.of_alloc W0 (.cells #[] 4) hs0).alloc (.cells #[] 3))) hgrow1 rfl (by omega); have hne : g1 ≠ g + 2 := (by rcases hat1 with h | h; (have h : some (g + 3) = some g1 := h; injection h with h; omega); (simp [hs0] at h; omega)))
    | (refine step_append_zero _ (by rfl) _ _ 28 (by rfl) 4 b0 Try.underlying28 bi0 w1.heap.size W.d W.M (by rfl) (by rfl) ?_; have HX2 := hid (bth HX1.out (al1 (o := .cells #[] 4)) HX1.out.size); have O12 := own_empty (base := W0.heap.size) (Bk.of_alloc w1 (.cells #[] 4) rfl) (by have := HX1.out.size; omega); replace O8 := O8.alloc (.cells #[] 4); have hkk := hid (rfl : w1.heap.size = w1.heap.size); generalize w1.alloc (.cells #[] 4) = w2 at *; have hzz : w.heap.size ≤ W0.heap.size := HB0.out.size; obtain ⟨r0, r1, r2⟩ := (RC.out _ HX2.out).c3; have f0 := Bk.fz (RC.out _ HX2.out) 0; have f1 := Bk.fz (RC.out _ HX2.out) 1; have f2 := Bk.fz (RC.out _ HX2.out) 2)
    | (refine step_append_zero _ (by rfl) _ _ 28 (by rfl) 4 b0 Try.underlying28 bi0 (g + 3) W.d W.M (by rfl) (by rfl) ?_; have HX2 := HX1; have O12 := own_empty (base := W0.heap.size) E1 (by omega); have hzz : w.heap.size ≤ W0.heap.size := HB0.out.size; obtain ⟨r0, r1, r2⟩ := (RC.out _ HX2.out).c3; have f0 := Bk.fz (RC.out _ HX2.out) 0; have f1 := Bk.fz (RC.out _ HX2.out) 1; have f2 := Bk.fz (RC.out _ HX2.out) 2)
    | (refine step_append_zero _ (by rfl) _ _ 28 (by rfl) 4 b0 Try.underlying28 bi0 (g + 2) W.d W.M (by rfl) (by rfl) ?_; have HX2 := HX1; have O12 := own_empty (base := W0.heap.size) E1 (by omega); have hzz : w.heap.size ≤ W0.heap.size := HB0.out.size; obtain ⟨r0, r1, r2⟩ := (RC.out _ HX2.out).c3; have f0 := Bk.fz (RC.out _ HX2.out) 0; have f1 := Bk.fz (RC.out _ HX2.out) 1; have f2 := Bk.fz (RC.out _ HX2.out) 2))
  all_goals first
    | (simp only [Nat.zero_add, List.nil_append] at O8
       have O8 := own_base (ownsRow_setCell_below (ownsRow_setCell_below (ownsRow_setCell_below O8 (a := ⟨g + 1, 0, none⟩) hgl1 (.int .i64 W.min)) (a := ⟨g + 1, 1, none⟩) hgl1 (.slice (some ⟨g1, 0, none⟩) W.n cap1)) (a := ⟨g + 1, 2, none⟩) hgl1 (.slice (some ⟨w1.heap.size, 0, none⟩) 0 0)) hzz
       have J := fill3 (u0 := .int .i64 W.min) (u1 := .slice (some ⟨g1, 0, none⟩) W.n cap1) (u2 := (.slice (some ⟨w1.heap.size, 0, none⟩) 0 0)) (RC.out _ HX2.out)
       obtain ⟨j0, j1, j2⟩ := J.c3
       go_wp2
       exact bodyPost_ret (v := .agg #[.int .i64 W.min, .slice (some ⟨g1, 0, none⟩) W.n cap1, (.slice (some ⟨w1.heap.size, 0, none⟩) 0 0)]) (by simp [results, Try.results41, go_sem, j0, j1, j2]) rfl ⟨_, _, some ⟨w1.heap.size, 0, none⟩, 0, by rw [Hm.out], ⟨O8, by rw [Hm.out]; exact own_base (ownsRow_setCell_below (ownsRow_setCell_below (ownsRow_setCell_below O12 (a := ⟨g + 1, 0, none⟩) hgl1 _) (a := ⟨g + 1, 1, none⟩) hgl1 _) (a := ⟨g + 1, 2, none⟩) hgl1 _) hzz⟩, bset3 (HB0.out.trans (HX2.out.mono hzz)) (by rw [Hg.out]; omega)⟩)
    | (simp only [Nat.zero_add, List.nil_append] at O8
       have O8 := own_base (ownsRow_setCell_below (ownsRow_setCell_below (ownsRow_setCell_below O8 (a := ⟨g + 1, 0, none⟩) hgl1 (.int .i64 W.min)) (a := ⟨g + 1, 1, none⟩) hgl1 (.slice (some ⟨g1, 0, none⟩) W.n cap1)) (a := ⟨g + 1, 2, none⟩) hgl1 (.slice (some ⟨g + 3, 0, none⟩) 0 0)) hzz
       have J := fill3 (u0 := .int .i64 W.min) (u1 := .slice (some ⟨g1, 0, none⟩) W.n cap1) (u2 := (.slice (some ⟨g + 3, 0, none⟩) 0 0)) (RC.out _ HX2.out)
       obtain ⟨j0, j1, j2⟩ := J.c3
       go_wp2
       exact bodyPost_ret (v := .agg #[.int .i64 W.min, .slice (some ⟨g1, 0, none⟩) W.n cap1, (.slice (some ⟨g + 3, 0, none⟩) 0 0)]) (by simp [results, Try.results41, go_sem, j0, j1, j2]) rfl ⟨_, _, some ⟨g + 3, 0, none⟩, 0, by rw [Hm.out], ⟨O8, by rw [Hm.out]; exact own_base (ownsRow_setCell_below (ownsRow_setCell_below (ownsRow_setCell_below O12 (a := ⟨g + 1, 0, none⟩) hgl1 _) (a := ⟨g + 1, 1, none⟩) hgl1 _) (a := ⟨g + 1, 2, none⟩) hgl1 _) hzz⟩, bset3 (HB0.out.trans (HX2.out.mono hzz)) (by rw [Hg.out]; omega)⟩)
    | (simp only [Nat.zero_add, List.nil_append] at O8
       have O8 := own_base (ownsRow_setCell_below (ownsRow_setCell_below (ownsRow_setCell_below O8 (a := ⟨g + 1, 0, none⟩) hgl1 (.int .i64 W.min)) (a := ⟨g + 1, 1, none⟩) hgl1 (.slice (some ⟨g1, 0, none⟩) W.n cap1)) (a := ⟨g + 1, 2, none⟩) hgl1 (.slice (some ⟨g + 2, 0, none⟩) 0 0)) hzz
       have J := fill3 (u0 := .int .i64 W.min) (u1 := .slice (some ⟨g1, 0, none⟩) W.n cap1) (u2 := (.slice (some ⟨g + 2, 0, none⟩) 0 0)) (RC.out _ HX2.out)
       obtain ⟨j0, j1, j2⟩ := J.c3
       go_wp2
       exact bodyPost_ret (v := .agg #[.int .i64 W.min, .slice (some ⟨g1, 0, none⟩) W.n cap1, (.slice (some ⟨g + 2, 0, none⟩) 0 0)]) (by simp [results, Try.results41, go_sem, j0, j1, j2]) rfl ⟨_, _, some ⟨g + 2, 0, none⟩, 0, by rw [Hm.out], ⟨O8, by rw [Hm.out]; exact own_base (ownsRow_setCell_below (ownsRow_setCell_below (ownsRow_setCell_below O12 (a := ⟨g + 1, 0, none⟩) hgl1 _) (a := ⟨g + 1, 1, none⟩) hgl1 _) (a := ⟨g + 1, 2, none⟩) hgl1 _) hzz⟩, bset3 (HB0.out.trans (HX2.out.mono hzz)) (by rw [Hg.out]; omega)⟩)

set_option maxRecDepth 100000 in
set_option maxHeartbeats 16000000 in
theorem Copy_00 {w : World} {B1 : Nat} {W : Wd} (hw : Wt w B1 W) (hn : W.n = 0) (hm : W.m = 0) :
    Calls Try.prog 41 #[.agg #[.int .i64 W.min, .slice W.A W.n W.c, .slice W.M W.m W.d]] w fun e w' => ∃ A c M d, e = .returned (.agg #[.int .i64 W.min, .slice A W.n c, .slice M W.m d]) ∧ Cpy w' w.heap.size W A c M d ∧ Below w.heap.size w w' := by
  obtain ⟨i0, hi0, hz0, hz1, hz2⟩ : ∃ i, Try.prog.info? 3 = some i ∧ i.zero = some (.int .i64 0) ∧ i.size = 1 ∧ i.bytes = 8 := by
    have := info_int
    cases hx : Try.prog.info? 3 with
    | none => rw [hx] at this; cases this
    | some i => rw [hx] at this; simp at this; exact ⟨i, rfl, this.1, this.2.1, this.2.2⟩
  obtain ⟨b0, bi0, bz0, bz1, bz2⟩ : ∃ i, Try.prog.info? 4 = some i ∧ i.zero = some (.bool false) ∧ i.size = 1 ∧ i.bytes = 1 := by
    have := info_bool
    cases hx : Try.prog.info? 4 with
    | none => rw [hx] at this; cases this
    | some i => rw [hx] at this; simp at this; exact ⟨i, rfl, this.1, this.2.1, this.2.2⟩
  obtain ⟨g, hg⟩ : ∃ g, w.heap.size = g := ⟨_, rfl⟩
  have Hm := hid hm
  have Hn := hid hn
  clear hn hm
  have hb0 := ((Below.refl w.heap.size w).alloc (Nat.le_refl _) (.cells #[.int .i64 W.min, .slice W.A W.n W.c, .slice W.M W.m W.d] 30)).alloc (by simp) (.cells #[.int .i64 0, .slice none 0 0, .slice none 0 0] 30)
  have K0 := (Bk.of_alloc w (.cells #[.int .i64 W.min, .slice W.A W.n W.c, .slice W.M W.m W.d] 30) hg).alloc (.cells #[.int .i64 0, .slice none 0 0, .slice none 0 0] 30)
  have R0 : Bk _ (g + 1) _ := Bk.of_alloc (w.alloc (.cells #[.int .i64 W.min, .slice W.A W.n W.c, .slice W.M W.m W.d] 30)) (.cells #[.int .i64 0, .slice none 0 0, .slice none 0 0] 30) (by simp [hg])
  have V0 := (hw.below (alo (o := .cells #[.int .i64 W.min, .slice W.A W.n W.c, .slice W.M W.m W.d] 30))).below (alo (o := .cells #[.int .i64 0, .slice none 0 0, .slice none 0 0] 30))
  have hs0 : ((w.alloc (.cells #[.int .i64 W.min, .slice W.A W.n W.c, .slice W.M W.m W.d] 30)).alloc (.cells #[.int .i64 0, .slice none 0 0, .slice none 0 0] 30)).heap.size = g + 2 := by simp [hg]
  go_enter Try.func41, Try.ntmps41
  go_upto_region 1 with fail
  generalize (w.alloc (.cells #[.int .i64 W.min, .slice W.A W.n W.c, .slice W.M W.m W.d] 30)).alloc (.cells #[.int .i64 0, .slice none 0 0, .slice none 0 0] 30) = W0 at *
  have HB0 := hid hb0
  have Hg := hid hg
  have Hs0 := hid hs0
  have hgl : g < W0.heap.size := by omega
  have hgl1 : g + 1 < W0.heap.size := by omega
  obtain ⟨y0, y1, y2⟩ := K0.c3
  rw [Hn.out] at y1
  rw [Hm.out] at y2
  clear hb0 hg hw
  have VD := fun (w : World) (h : Below W0.heap.size W0 w) => V0.below h
  have KC := hid (fun (w : World) (h : Below W0.heap.size W0 w) => (show w.cell? ⟨g, 0, none⟩ = some (.int .i64 W.min) ∧ w.cell? ⟨g, 1, none⟩ = some (.slice W.A 0 W.c) ∧ w.cell? ⟨g, 2, none⟩ = some (.slice W.M 0 W.d) from by
    obtain ⟨z0, z1, z2⟩ := (K0.step h).c3
    rw [Hn.out] at z1
    rw [Hm.out] at z2
    exact ⟨z0, z1, z2⟩))
  have RC := hid (fun (w : World) (h : Below W0.heap.size W0 w) => R0.step h)
  have KB := hid (fun (w : World) (h : Bk w g (.cells #[.int .i64 W.min, .slice W.A W.n W.c, .slice W.M W.m W.d] 30)) => (show w.cell? ⟨g, 0, none⟩ = some (.int .i64 W.min) ∧ w.cell? ⟨g, 1, none⟩ = some (.slice W.A 0 W.c) ∧ w.cell? ⟨g, 2, none⟩ = some (.slice W.M 0 W.d) from by
    obtain ⟨z0, z1, z2⟩ := h.c3
    rw [Hn.out] at z1
    rw [Hm.out] at z2
    exact ⟨z0, z1, z2⟩))
  have HK0 := hid (fun (w : World) (h : Below W0.heap.size W0 w) => K0.step h)
  have hne1 : g ≠ g + 1 := by omega
  clear K0 R0 V0
  go_region_held3 (fun w' => w'.cell? ⟨g, 0, none⟩ = some (.int .i64 W.min) ∧ w'.cell? ⟨g, 1, none⟩ = some (.slice W.A 0 W.c) ∧ w'.cell? ⟨g, 2, none⟩ = some (.slice W.M 0 W.d)) (first | with_reducible exact KB.out _ (bk_set (bk_set (bk_set (HK0.out _ HX2.out) hne1) hne1) hne1) | (with_reducible refine KC.out _ ?_; repeat' (first | with_reducible exact dr0 | with_reducible exact dr1 | with_reducible exact dr2 | with_reducible exact HX2.out | with_reducible exact HX1.out | with_reducible exact (bth HX1.out al1 HX1.out.size) | with_reducible exact (bth HX1.out al2 HX1.out.size) | with_reducible apply Below.setCell | (simpa using hgl) | (simp; omega) | omega))) (first
    | (refine step_append_zero _ (by rfl) _ _ 27 (by rfl) 3 i0 Try.underlying27 hi0 (g + 2) W.c W.A (by rfl) (by rfl) ?_)
    | (refine step_append_zero _ (by rfl) _ _ 27 (by rfl) 3 i0 Try.underlying27 hi0 (g + 3) W.c W.A (by rfl) (by rfl) ?_)
    | (refine step_append_zero _ (by rfl) _ _ 28 (by rfl) 4 b0 Try.underlying28 bi0 (g + 3) W.d W.M (by rfl) (by rfl) ?_; have HX2 := hid (show Below W0.heap.size W0 (((W0.alloc (.cells #[] 3)).alloc (.cells #[] 4)).drew) from dr2); have O8 := own_empty (base := W0.heap.size) (bk_drew ((Bk.of_alloc W0 (.cells #[] 3) hs0).alloc (.cells #[] 4))) (by omega); have O12 := own_empty (base := W0.heap.size) (bk_drew (Bk.of_alloc (W0.alloc (.cells #[] 3)) (.cells #[] 4) (g := g + 3) (by simp [hs0]))) (by omega); generalize ((W0.alloc (.cells #[] 3)).alloc (.cells #[] 4)).drew = w2 at *; have hzz : w.heap.size ≤ W0.heap.size := HB0.out.size; obtain ⟨r0, r1, r2⟩ := (RC.out _ HX2.out).c3; have f0 := Bk.fz (RC.out _ HX2.out) 0; have f1 := Bk.fz (RC.out _ HX2.out) 1; have f2 := Bk.fz (RC.out _ HX2.out) 2)
    | (refine step_append_zero _ (by rfl) _ _ 28 (by rfl) 4 b0 Try.underlying28 bi0 (g + 2) W.d W.M (by rfl) (by rfl) ?_; have HX2 := hid (show Below W0.heap.size W0 (((W0.alloc (.cells #[] 4)).alloc (.cells #[] 3)).drew) from dr2); have O8 := own_empty (base := W0.heap.size) (bk_drew (Bk.of_alloc (W0.alloc (.cells #[] 4)) (.cells #[] 3) (g := g + 3) (by simp [hs0]))) (by omega); have O12 := own_empty (base := W0.heap.size) (bk_drew ((Bk.of_alloc W0 (.cells #[] 4) hs0).alloc (.cells #[] 3))) (by omega); generalize ((W0.alloc (.cells #[] 4)).alloc (.cells #[] 3)).drew = w2 at *; have hzz : w.heap.size ≤ W0.heap.size := HB0.out.size; obtain ⟨r0, r1, r2⟩ := (RC.out _ HX2.out).c3; have f0 := Bk.fz (RC.out _ HX2.out) 0; have f1 := Bk.fz (RC.out _ HX2.out) 1; have f2 := Bk.fz (RC.out _ HX2.out) 2))
  all_goals first
    | (have O8 := own_base (ownsRow_setCell_below (ownsRow_setCell_below (ownsRow_setCell_below O8 (a := ⟨g + 1, 0, none⟩) hgl1 (.int .i64 W.min)) (a := ⟨g + 1, 1, none⟩) hgl1 (.slice (some ⟨g + 2, 0, none⟩) 0 0)) (a := ⟨g + 1, 2, none⟩) hgl1 (.slice (some ⟨g + 3, 0, none⟩) 0 0)) hzz
       have O12 := own_base (ownsRow_setCell_below (ownsRow_setCell_below (ownsRow_setCell_below O12 (a := ⟨g + 1, 0, none⟩) hgl1 (.int .i64 W.min)) (a := ⟨g + 1, 1, none⟩) hgl1 (.slice (some ⟨g + 2, 0, none⟩) 0 0)) (a := ⟨g + 1, 2, none⟩) hgl1 (.slice (some ⟨g + 3, 0, none⟩) 0 0)) hzz
       have J := fill3 (u0 := .int .i64 W.min) (u1 := (.slice (some ⟨g + 2, 0, none⟩) 0 0)) (u2 := (.slice (some ⟨g + 3, 0, none⟩) 0 0)) (RC.out _ HX2.out)
       obtain ⟨j0, j1, j2⟩ := J.c3
       go_wp2
       exact bodyPost_ret (v := .agg #[.int .i64 W.min, (.slice (some ⟨g + 2, 0, none⟩) 0 0), (.slice (some ⟨g + 3, 0, none⟩) 0 0)]) (by simp [results, Try.results41, go_sem, j0, j1, j2]) rfl ⟨some ⟨g + 2, 0, none⟩, 0, some ⟨g + 3, 0, none⟩, 0, by rw [Hn.out, Hm.out], ⟨by rw [Hn.out]; exact O8, by rw [Hm.out]; exact O12⟩, bset3 (HB0.out.trans (HX2.out.mono hzz)) (by rw [Hg.out]; omega)⟩)
    | (have O8 := own_base (ownsRow_setCell_below (ownsRow_setCell_below (ownsRow_setCell_below O8 (a := ⟨g + 1, 0, none⟩) hgl1 (.int .i64 W.min)) (a := ⟨g + 1, 1, none⟩) hgl1 (.slice (some ⟨g + 3, 0, none⟩) 0 0)) (a := ⟨g + 1, 2, none⟩) hgl1 (.slice (some ⟨g + 2, 0, none⟩) 0 0)) hzz
       have O12 := own_base (ownsRow_setCell_below (ownsRow_setCell_below (ownsRow_setCell_below O12 (a := ⟨g + 1, 0, none⟩) hgl1 (.int .i64 W.min)) (a := ⟨g + 1, 1, none⟩) hgl1 (.slice (some ⟨g + 3, 0, none⟩) 0 0)) (a := ⟨g + 1, 2, none⟩) hgl1 (.slice (some ⟨g + 2, 0, none⟩) 0 0)) hzz
       have J := fill3 (u0 := .int .i64 W.min) (u1 := (.slice (some ⟨g + 3, 0, none⟩) 0 0)) (u2 := (.slice (some ⟨g + 2, 0, none⟩) 0 0)) (RC.out _ HX2.out)
       obtain ⟨j0, j1, j2⟩ := J.c3
       go_wp2
       exact bodyPost_ret (v := .agg #[.int .i64 W.min, (.slice (some ⟨g + 3, 0, none⟩) 0 0), (.slice (some ⟨g + 2, 0, none⟩) 0 0)]) (by simp [results, Try.results41, go_sem, j0, j1, j2]) rfl ⟨some ⟨g + 3, 0, none⟩, 0, some ⟨g + 2, 0, none⟩, 0, by rw [Hn.out, Hm.out], ⟨by rw [Hn.out]; exact O8, by rw [Hm.out]; exact O12⟩, bset3 (HB0.out.trans (HX2.out.mono hzz)) (by rw [Hg.out]; omega)⟩)

end Go.Proofs.Ytockfiobhmohnaa

