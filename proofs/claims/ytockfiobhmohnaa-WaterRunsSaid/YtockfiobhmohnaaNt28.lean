/- Networks: moved of the reference. For every state with a basin and a link. -/
import Derived.Test.YtockfiobhmohnaaGl
namespace Go.Proofs.Ytockfiobhmohnaa
open Go.RowKit Go.Maps Kb Wb

def upd (X : Nat → Int) (i : Nat) (v : Int) : Nat → Int := fun k => if k = i then v else X k
theorem own_cur {w : World} {B n c : Nat} {V : Option Addr} {T : TypeId} {xs : List Value} (h : w.ownsRow B T 1 (.slice V n c) n xs) (hl : 0 < n) : ∃ g cur, V = some ⟨g, 0, none⟩ ∧ B ≤ g ∧ Bk w g (.cells cur T (0, 0)) ∧ n ≤ c ∧ c ≤ maxLen ∧ cur.size = c ∧ cur.toList.take n = xs ∧ xs.length = n := by
  have h1 := h.1
  rw [Nat.mul_one] at h1
  rcases h.2 with ⟨_, h0⟩ | ⟨g, cap, cur, e, hb, hg, hn, hm, hs, ht⟩
  · omega
  · injection e with e1 e2 e3
    subst e1; subst e3
    rw [Nat.mul_one] at ht hs
    exact ⟨g, cur, rfl, hb, hg, hn, hm, hs, ht, h1⟩
theorem cur_get {cur : Array Value} {n i : Nat} {xs : List Value} (ht : cur.toList.take n = xs) (hi : i < n) : cur[i]? = xs[i]? := by
  rw [← ht, List.getElem?_take_of_lt hi]
  simp
theorem own_put {w : World} {B n c g : Nat} {X : Nat → Int} (h : w.ownsRow B 3 1 (.slice (some ⟨g, 0, none⟩) n c) n (ints X n)) {i : Nat} (hi : i < n) (v : Int) : (w.setCell ⟨g, i, none⟩ (.int .i64 v)).ownsRow B 3 1 (.slice (some ⟨g, 0, none⟩) n c) n (ints (upd X i v) n) := by
  obtain ⟨g', cur, e, hb, hg, hn, hm, hs, ht, hl⟩ := own_cur h (by omega)
  injection e with e
  injection e with e
  subst e
  refine ⟨by rw [ints_len, Nat.mul_one], .inr ⟨g, c, cur.setIfInBounds i (.int .i64 v), rfl, hb, ?_, hn, hm, by rw [Array.size_setIfInBounds, hs, Nat.mul_one], ?_⟩⟩
  · unfold Bk at hg
    simp only [World.setCell, Array.getElem?_modify, hg]
    simp
  · rw [Nat.mul_one]
    refine List.ext_getElem? fun j => ?_
    by_cases hj : j < n
    · rw [List.getElem?_take_of_lt hj, ints_get _ hj]
      have hc := cur_get ht hj
      rw [ints_get _ hj] at hc
      rw [Array.getElem?_toList, Array.getElem?_setIfInBounds, hc]
      unfold upd
      by_cases e : i = j
      · subst e; rw [if_pos rfl, if_pos (by omega), if_pos rfl]
      · rw [if_neg e, if_neg (fun e2 => e e2.symm)]
    · rw [List.getElem?_eq_none (by rw [List.length_take]; omega), List.getElem?_eq_none (by rw [ints_len]; omega)]
/-- A copy of a state in a box, its litres and truth values its own. -/
structure Mo (w : World) (gb gl gm B : Nat) (W : Wd) (c d : Nat) (X : Nat → Int) : Prop where
  b : Bk w gb (.cells #[.int .i64 W.min, .slice (some ⟨gl, 0, none⟩) W.n c, .slice (some ⟨gm, 0, none⟩) W.m d] 30 (0, 0))
  x : w.ownsRow B 3 1 (.slice (some ⟨gl, 0, none⟩) W.n c) W.n (ints X W.n)
  y : w.ownsRow B 4 1 (.slice (some ⟨gm, 0, none⟩) W.m d) W.m (bools W.Y W.m)
section
variable {w w' : World} {gb gl gm B c d : Nat} {W : Wd} {X : Nat → Int}
theorem Mo.below (h : Mo w gb gl gm B W c d X) (hb : Below w.heap.size w w') : Mo w' gb gl gm B W c d X := ⟨h.b.step hb, own_below h.x hb, own_below h.y hb⟩
theorem Mo.row (h : Mo w gb gl gm B W c d X) (hn : 0 < W.n) : ∃ cur, Bk w gl (.cells cur 3 (0, 0)) ∧ B ≤ gl ∧ ∀ j, j < W.n → cur[j]? = some (.int .i64 (X j)) := by
  obtain ⟨g', cur, e, hb, hg, h1, h2, hs, ht, hl⟩ := own_cur h.x hn
  injection e with e
  injection e with e
  subst e
  exact ⟨cur, hg, hb, fun j hj => by rw [cur_get ht hj, ints_get _ hj]⟩
theorem Mo.rowy (h : Mo w gb gl gm B W c d X) (hm : 0 < W.m) : ∃ cur, Bk w gm (.cells cur 4 (0, 0)) ∧ B ≤ gm := by
  obtain ⟨g', cur, e, hb, hg, h1, h2, hs, ht, hl⟩ := own_cur h.y hm
  injection e with e
  injection e with e
  subst e
  exact ⟨cur, hg, hb⟩
theorem bk_ty {a b : Array Value} {g g' : Nat} {T T' : TypeId} (h : Bk w g (.cells a T (0, 0))) (k : Bk w g' (.cells b T' (0, 0))) (hT : T ≠ T') : g ≠ g' := fun e => by
  subst e
  unfold Bk at h k
  rw [h] at k
  injection k with k
  injection k with _ k
  exact hT k
theorem Mo.put (h : Mo w gb gl gm B W c d X) (hn : 0 < W.n) (hm : 0 < W.m) {i : Nat} (hi : i < W.n) (v : Int) : Mo (w.setCell ⟨gl, i, none⟩ (.int .i64 v)) gb gl gm B W c d (upd X i v) := by
  obtain ⟨cur, hg, _⟩ := h.row hn
  obtain ⟨cuy, hy, _⟩ := h.rowy hm
  exact ⟨bk_set h.b (bk_ty h.b hg (by decide)), own_put h.x hi v, own_lies h.y (gb_set (World.grownBy.refl _ _) i _) rfl (bk_ty hy hg (by decide))⟩
theorem Mo.cells (h : Mo w gb gl gm B W c d X) : w.cell? ⟨gb, 0, none⟩ = some (.int .i64 W.min) ∧ w.cell? ⟨gb, 1, none⟩ = some (.slice (some ⟨gl, 0, none⟩) W.n c) ∧ w.cell? ⟨gb, 2, none⟩ = some (.slice (some ⟨gm, 0, none⟩) W.m d) := h.b.c3
theorem Mo.at_ (h : Mo w gb gl gm B W c d X) {i : Nat} (hi : i < W.n) : w.cell? ⟨gl, i, none⟩ = some (.int .i64 (X i)) ∧ w.frozen? ⟨gl, i, none⟩ = false ∧ B ≤ gl := by
  obtain ⟨cur, hg, hb, hc⟩ := h.row (by omega)
  exact ⟨(cell_of_row w _ i _ _ _ hg).trans (hc i hi), Bk.fz hg i, hb⟩
theorem Mo.off3 (h : Mo w gb gl gm B W c d X) {k : Nat} {u0 u1 u2 : Value} (hk : gb ≠ k) (hB : k < B) : Mo (((w.setCell ⟨k, 0, none⟩ u0).setCell ⟨k, 1, none⟩ u1).setCell ⟨k, 2, none⟩ u2) gb gl gm B W c d X :=
  ⟨bk_set (bk_set (bk_set h.b hk) hk) hk, ownsRow_setCell_below (ownsRow_setCell_below (ownsRow_setCell_below h.x (a := ⟨k, 0, none⟩) hB _) (a := ⟨k, 1, none⟩) hB _) (a := ⟨k, 2, none⟩) hB _, ownsRow_setCell_below (ownsRow_setCell_below (ownsRow_setCell_below h.y (a := ⟨k, 0, none⟩) hB _) (a := ⟨k, 1, none⟩) hB _) (a := ⟨k, 2, none⟩) hB _⟩
/-- The state that such a copy is. -/
def Wd.upd (W : Wd) (gl c gm d : Nat) (X : Nat → Int) : Wd := ⟨W.min, some ⟨gl, 0, none⟩, W.n, c, X, some ⟨gm, 0, none⟩, W.m, d, W.Y⟩
theorem Mo.wt (h : Mo w gb gl gm B W c d X) (hn : 0 < W.n) (hm : 0 < W.m) : Wt w w.heap.size (W.upd gl c gm d X) := by
  obtain ⟨g1, cur, e1, _, hg, h1, h2, hs, ht, hl⟩ := own_cur h.x hn
  injection e1 with e1
  injection e1 with e1
  subst e1
  obtain ⟨g2, cuy, e2, _, hgy, k1, k2, ks, kt, kl⟩ := own_cur h.y hm
  injection e2 with e2
  injection e2 with e2
  subst e2
  refine ⟨fun i hi => ⟨_, rfl, hg.lt, ?_⟩, fun i hi => ⟨_, rfl, hgy.lt, ?_⟩, Nat.le_refl _, h1, h2, k1, k2⟩
  · have : (⟨gl, 0, none⟩ : Addr).add i = ⟨gl, i, none⟩ := by unfold Addr.add; split <;> simp_all
    rw [this]
    have hi' : i < W.n := hi
    exact (cell_of_row w _ i _ _ _ hg).trans (by rw [cur_get ht hi']; exact ints_get _ hi')
  · have : (⟨gm, 0, none⟩ : Addr).add i = ⟨gm, i, none⟩ := by unfold Addr.add; split <;> simp_all
    rw [this]
    have hi' : i < W.m := hi
    exact (cell_of_row w _ i _ _ _ hgy).trans (by rw [cur_get kt hi']; exact bools_get _ hi')
end
/-- What is left at a place, and what comes to it. -/
def take (X : Nat → Int) (p q : Int) : Nat → Int := fun k => if (k : Int) = p then X k - q else X k
def give (X : Nat → Int) (p q : Int) : Nat → Int := fun k => if (k : Int) = p then X k + q else X k
theorem take_neg (X : Nat → Int) (q : Int) : take X (-1) q = X := by funext k; unfold take; rw [if_neg (by omega)]
theorem give_neg (X : Nat → Int) (q : Int) : give X (-1) q = X := by funext k; unfold give; rw [if_neg (by omega)]
theorem take_at (X : Nat → Int) (i : Nat) (q : Int) : take X i q = upd X i (X i - q) := by
  funext k; unfold take upd
  by_cases e : k = i
  · subst e; rw [if_pos rfl, if_pos rfl]
  · rw [if_neg (by omega), if_neg e]
theorem give_at (X : Nat → Int) (i : Nat) (q : Int) : give X i q = upd X i (X i + q) := by
  funext k; unfold give upd
  by_cases e : k = i
  · subst e; rw [if_pos rfl, if_pos rfl]
  · rw [if_neg (by omega), if_neg e]
set_option maxRecDepth 100000 in
set_option maxHeartbeats 16000000 in
theorem moved_any {w : World} {B0 B1 : Nat} {N : Nd} {W : Wd} {s s2 : ByteArray} {p p2 k : Int} (hp : Hid (Ixn N.n N.bnm s p)) (hp2 : Hid (Ixn N.n N.bnm s2 p2)) (hne : p ≠ p2) (h : Nt w B0 N) (hs : Nsm N) (hw : Wt w B1 W) (hnn : W.n = N.n) (hn : 0 < W.n) (hm : 0 < W.m) (hm9 : W.m ≤ 1000)
    (k0 : 0 ≤ k) (k1 : k ≤ 3000000000) (hX : ∀ i, i < W.n → 0 ≤ W.X i ∧ W.X i ≤ 9000000000000000000) :
    Calls Try.prog 43 #[.agg #[.slice N.A N.n N.c, .slice N.M N.m N.d, .slice N.K N.k N.e], .agg #[.int .i64 W.min, .slice W.A W.n W.c, .slice W.M W.m W.d], .string s, .string s2, .int .i64 k] w fun e w' => ∃ gl c gm d, e = .returned (.agg #[.int .i64 W.min, .slice (some ⟨gl, 0, none⟩) W.n c, .slice (some ⟨gm, 0, none⟩) W.m d]) ∧ Wt w' w'.heap.size (W.upd gl c gm d (give (take W.X p k) p2 k)) ∧ Below w.heap.size w w' := by
  have hn9 : W.n ≤ 1000 := by rw [hnn]; exact hs.n
  obtain ⟨g, hg⟩ : ∃ g, w.heap.size = g := ⟨_, rfl⟩
  have hb0 := (((Below.refl w.heap.size w).alloc (Nat.le_refl _) (.cells #[.slice N.A N.n N.c, .slice N.M N.m N.d, .slice N.K N.k N.e] 26)).alloc (by simp) (.cells #[.int .i64 W.min, .slice W.A W.n W.c, .slice W.M W.m W.d] 30)).alloc (by simp; omega) (.cells #[.int .i64 0, .slice none 0 0, .slice none 0 0] 30)
  have n1 := ((Nb.new h hg).below (alo (o := .cells #[.int .i64 W.min, .slice W.A W.n W.c, .slice W.M W.m W.d] 30))).below (alo (o := .cells #[.int .i64 0, .slice none 0 0, .slice none 0 0] 30))
  have w1 : Bk _ (g + 1) _ := (Bk.of_alloc (w.alloc (.cells #[.slice N.A N.n N.c, .slice N.M N.m N.d, .slice N.K N.k N.e] 26)) (.cells #[.int .i64 W.min, .slice W.A W.n W.c, .slice W.M W.m W.d] 30) (by simp [hg])).alloc (.cells #[.int .i64 0, .slice none 0 0, .slice none 0 0] 30)
  have r1 : Bk _ (g + 1 + 1) _ := Bk.of_alloc ((w.alloc (.cells #[.slice N.A N.n N.c, .slice N.M N.m N.d, .slice N.K N.k N.e] 26)).alloc (.cells #[.int .i64 W.min, .slice W.A W.n W.c, .slice W.M W.m W.d] 30)) (.cells #[.int .i64 0, .slice none 0 0, .slice none 0 0] 30) (by simp [hg])
  have a1 := ((hw.below (alo (o := .cells #[.slice N.A N.n N.c, .slice N.M N.m N.d, .slice N.K N.k N.e] 26))).below (alo (o := .cells #[.int .i64 W.min, .slice W.A W.n W.c, .slice W.M W.m W.d] 30))).below (alo (o := .cells #[.int .i64 0, .slice none 0 0, .slice none 0 0] 30))
  have hs0 : (((w.alloc (.cells #[.slice N.A N.n N.c, .slice N.M N.m N.d, .slice N.K N.k N.e] 26)).alloc (.cells #[.int .i64 W.min, .slice W.A W.n W.c, .slice W.M W.m W.d] 30)).alloc (.cells #[.int .i64 0, .slice none 0 0, .slice none 0 0] 30)).heap.size = g + 3 := by simp [hg]
  have Hs := hid hs
  have HX := hid hX
  have Hnn := hid hnn
  clear hs h hw hX hnn
  obtain ⟨y0, y1, y2⟩ := w1.c3
  go_enter Try.func43, Try.ntmps43
  go_wp2_with fail
  generalize ((w.alloc (.cells #[.slice N.A N.n N.c, .slice N.M N.m N.d, .slice N.K N.k N.e] 26)).alloc (.cells #[.int .i64 W.min, .slice W.A W.n W.c, .slice W.M W.m W.d] 30)).alloc (.cells #[.int .i64 0, .slice none 0 0, .slice none 0 0] 30) = W0 at *
  have HB0 := hid hb0
  have Hg := hid hg
  have Hs0 := hid hs0
  clear hb0 hg hs0 y0 y1 y2
  refine (Copy_any a1 hn hm hn9 hm9).mono ?_
  rintro e w2 ⟨A, c, M, d, rfl, hC, hb⟩
  obtain ⟨gl, -, rfl, hgl, -⟩ := own_cur hC.x hn
  obtain ⟨gm, -, rfl, hgm, -⟩ := own_cur hC.y hm
  have N1 := hid n1
  have R1 := hid r1
  have n2 := n1.below hb
  have r2 := r1.step hb
  obtain ⟨x0, x1, x2⟩ := n2.cells
  obtain ⟨gb, hgb⟩ : ∃ gb, w2.heap.size = gb := ⟨_, rfl⟩
  have hba := alo (W := w2) (o := .cells #[.int .i64 W.min, .slice (some ⟨gl, 0, none⟩) W.n c, .slice (some ⟨gm, 0, none⟩) W.m d] 30)
  have M3 : Mo _ gb gl gm W0.heap.size W c d W.X := ⟨Bk.of_alloc w2 _ hgb, own_below hC.x hba, own_below hC.y hba⟩
  have B3 := hid (bth hb hba hb.size)
  have hl2 : g + 2 < w2.heap.size := r2.lt
  have hl0 : g < w2.heap.size := by omega
  have hl3 : g < gb := by omega
  have Hgb9 := hid (show W0.heap.size ≤ gb by rw [← hgb]; exact hb.size)
  clear n1 r1 a1 w1
  go_wp2_with fail
  have Hgb := hid hgb
  generalize w2.alloc (.cells #[.int .i64 W.min, .slice (some ⟨gl, 0, none⟩) W.n c, .slice (some ⟨gm, 0, none⟩) W.m d] 30) = W3 at *
  clear hgb hb hba hl2 hl0 hl3 n2 r2 x0 x1 x2 hC
  have n3 := N1.out.below B3.out
  refine (rBasin_is hp n3.a Hs.out).mono ?_
  rintro e w4 ⟨rfl, hb⟩
  have M4 := M3.below hb
  have B4 := hid (bth B3.out hb B3.out.size)
  clear hb n3 M3
  rcases hp.out with ⟨rfl, _⟩ | ⟨i, hi, _, _, rfl⟩
  · clear hp
    have n5 := N1.out.below B4.out
    obtain ⟨x0, x1, x2⟩ := n5.cells
    go_wp2_with fail
    clear x0 x1 x2
    refine (rBasin_is hp2 n5.a Hs.out).mono ?_
    rintro e w6 ⟨rfl, hb⟩
    have M6 := M4.below hb
    have B6 := hid (bth B4.out hb B4.out.size)
    clear hb n5 M4
    rcases hp2.out with ⟨rfl, _⟩ | ⟨j, hj, _, _, rfl⟩
    · exact absurd rfl hne
    · have hjN : j < W.n := by rw [Hnn.out]; exact hj
      have hXj := HX.out j hjN
      have hjI : (j : Int) < (W.n : Int) := by omega
      clear hne hj hp2
      obtain ⟨c0, c1, c2⟩ := M6.cells
      obtain ⟨q0, q1, q2⟩ := M6.at_ hjN
      have hv : IntKind.i64.wrap (W.X j + k) = W.X j + k := IntWalk.i64_in _ (by omega)
      go_wp2_with fail
      go_region
      have M7 := ((M6).put hn hm hjN (W.X j + k)).below dr0
      have B7 := hid (B6.out.setCell (p := ⟨gl, j, none⟩) q2 (.int .i64 (W.X j + k))).drew
      generalize (w6.setCell ⟨gl, j, none⟩ (.int .i64 (W.X j + k))).drew = w6s at *
      clear c0 c1 c2 q0 q1 hv M6
      obtain ⟨c0, c1, c2⟩ := M7.cells
      have r9 := R1.out.step B7.out
      obtain ⟨r90, r91, r92⟩ := r9.c3
      have f0 := Bk.fz r9 0
      have f1 := Bk.fz r9 1
      have f2 := Bk.fz r9 2
      have J := fill3 (u0 := .int .i64 W.min) (u1 := .slice (some ⟨gl, 0, none⟩) W.n c) (u2 := .slice (some ⟨gm, 0, none⟩) W.m d) r9
      obtain ⟨j0, j1, j2⟩ := J.c3
      have hzz : w.heap.size ≤ W0.heap.size := HB0.out.size
      have hgb2 : gb ≠ g + 1 + 1 := by have := Hgb9.out; have := Hs0.out; omega
      go_wp2
      exact bodyPost_ret (v := .agg #[.int .i64 W.min, .slice (some ⟨gl, 0, none⟩) W.n c, .slice (some ⟨gm, 0, none⟩) W.m d]) (by simp [results, Try.results43, go_sem, j0, j1, j2]) rfl ⟨gl, c, gm, d, rfl, by rw [take_neg, give_at]; exact (M7.off3 hgb2 (by rw [Hs0.out]; omega)).wt hn hm, bset3 (HB0.out.trans (B7.out.mono hzz)) (by rw [Hg.out]; omega)⟩
  · have hiN : i < W.n := by rw [Hnn.out]; exact hi
    have hXi := HX.out i hiN
    have hiI : (i : Int) < (W.n : Int) := by omega
    clear hp hi
    obtain ⟨c0, c1, c2⟩ := M4.cells
    obtain ⟨q0, q1, q2⟩ := M4.at_ hiN
    have hv : IntKind.i64.wrap (W.X i - k) = W.X i - k := IntWalk.i64_in _ (by omega)
    go_wp2_with fail
    go_region
    have M5 := ((M4).put hn hm hiN (W.X i - k)).below dr0
    have B5 := hid (B4.out.setCell (p := ⟨gl, i, none⟩) q2 (.int .i64 (W.X i - k))).drew
    generalize (w4.setCell ⟨gl, i, none⟩ (.int .i64 (W.X i - k))).drew = w4s at *
    clear c0 c1 c2 q0 q1 hv M4
    have n5 := N1.out.below B5.out
    obtain ⟨x0, x1, x2⟩ := n5.cells
    go_wp2_with fail
    clear x0 x1 x2
    refine (rBasin_is hp2 n5.a Hs.out).mono ?_
    rintro e w6 ⟨rfl, hb⟩
    have M6 := M5.below hb
    have B6 := hid (bth B5.out hb B5.out.size)
    clear hb n5 M5
    rcases hp2.out with ⟨rfl, _⟩ | ⟨j, hj, _, _, rfl⟩
    · clear hp2 hne
      obtain ⟨c0, c1, c2⟩ := M6.cells
      have r9 := R1.out.step B6.out
      obtain ⟨r90, r91, r92⟩ := r9.c3
      have f0 := Bk.fz r9 0
      have f1 := Bk.fz r9 1
      have f2 := Bk.fz r9 2
      have J := fill3 (u0 := .int .i64 W.min) (u1 := .slice (some ⟨gl, 0, none⟩) W.n c) (u2 := .slice (some ⟨gm, 0, none⟩) W.m d) r9
      obtain ⟨j0, j1, j2⟩ := J.c3
      have hzz : w.heap.size ≤ W0.heap.size := HB0.out.size
      have hgb2 : gb ≠ g + 1 + 1 := by have := Hgb9.out; have := Hs0.out; omega
      go_wp2
      exact bodyPost_ret (v := .agg #[.int .i64 W.min, .slice (some ⟨gl, 0, none⟩) W.n c, .slice (some ⟨gm, 0, none⟩) W.m d]) (by simp [results, Try.results43, go_sem, j0, j1, j2]) rfl ⟨gl, c, gm, d, rfl, by rw [take_at, give_neg]; exact (M6.off3 hgb2 (by rw [Hs0.out]; omega)).wt hn hm, bset3 (HB0.out.trans (B6.out.mono hzz)) (by rw [Hg.out]; omega)⟩
    · have hjN : j < W.n := by rw [Hnn.out]; exact hj
      have hXj := HX.out j hjN
      have hjI : (j : Int) < (W.n : Int) := by omega
      have hup : upd W.X i (W.X i - k) j = W.X j := if_neg (fun e => hne (by rw [e]))
      clear hne hj hp2
      obtain ⟨c0, c1, c2⟩ := M6.cells
      obtain ⟨q0, q1, q2⟩ := M6.at_ hjN
      rw [hup] at q0
      have hv : IntKind.i64.wrap (W.X j + k) = W.X j + k := IntWalk.i64_in _ (by omega)
      go_wp2_with fail
      go_region
      have M7 := ((M6).put hn hm hjN (W.X j + k)).below dr0
      have B7 := hid (B6.out.setCell (p := ⟨gl, j, none⟩) q2 (.int .i64 (W.X j + k))).drew
      generalize (w6.setCell ⟨gl, j, none⟩ (.int .i64 (W.X j + k))).drew = w6s at *
      clear c0 c1 c2 q0 q1 hv M6
      obtain ⟨c0, c1, c2⟩ := M7.cells
      have r9 := R1.out.step B7.out
      obtain ⟨r90, r91, r92⟩ := r9.c3
      have f0 := Bk.fz r9 0
      have f1 := Bk.fz r9 1
      have f2 := Bk.fz r9 2
      have J := fill3 (u0 := .int .i64 W.min) (u1 := .slice (some ⟨gl, 0, none⟩) W.n c) (u2 := .slice (some ⟨gm, 0, none⟩) W.m d) r9
      obtain ⟨j0, j1, j2⟩ := J.c3
      have hzz : w.heap.size ≤ W0.heap.size := HB0.out.size
      have hgb2 : gb ≠ g + 1 + 1 := by have := Hgb9.out; have := Hs0.out; omega
      go_wp2
      exact bodyPost_ret (v := .agg #[.int .i64 W.min, .slice (some ⟨gl, 0, none⟩) W.n c, .slice (some ⟨gm, 0, none⟩) W.m d]) (by simp [results, Try.results43, go_sem, j0, j1, j2]) rfl ⟨gl, c, gm, d, rfl, by rw [take_at, give_at, hup]; exact (M7.off3 hgb2 (by rw [Hs0.out]; omega)).wt hn hm, bset3 (HB0.out.trans (B7.out.mono hzz)) (by rw [Hg.out]; omega)⟩

end Go.Proofs.Ytockfiobhmohnaa

