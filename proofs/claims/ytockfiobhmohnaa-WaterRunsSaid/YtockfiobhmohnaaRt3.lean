/- Networks: a run in memory; add, lasts, level of the program. For every run. -/
import Derived.Test.YtockfiobhmohnaaGl
import Derived.Test.YtockfiobhmohnaaGm
import Derived.Great.Walk
namespace Go.Proofs.Ytockfiobhmohnaa
open Go.RowKit Go.Maps Kb Wb

section
variable {w w' : World} {g B c d p u : Nat} {N : Nd} {t : Int} {A M P : Option Addr} {X : Nat → Int} {Y : Nat → Bool}
theorem Rw.below (h : Rw w g B N t A c M d X Y P p u) (hb : Below w.heap.size w w') : Rw w' g B N t A c M d X Y P p u := ⟨h.b.step hb, own_below h.x hb, own_below h.y hb, h.g⟩
theorem Rw.cells (h : Rw w g B N t A c M d X Y P p u) : w.cell? ⟨g, 0, none⟩ = some (.slice N.A N.n N.c) ∧ w.cell? ⟨g, 1, none⟩ = some (.slice N.M N.m N.d) ∧ w.cell? ⟨g, 2, none⟩ = some (.slice N.K N.k N.e) ∧ w.cell? ⟨g, 3, none⟩ = some (.int .i64 t) ∧ w.cell? ⟨g, 4, none⟩ = some (.slice A N.n c) ∧ w.cell? ⟨g, 5, none⟩ = some (.slice M N.k d) ∧ w.cell? ⟨g, 6, none⟩ = some (.slice P p u) := h.b.c7
theorem Rw.row (h : Rw w g B N t A c M d X Y P p u) (hn : 0 < N.n) : ∃ gl cur, A = some ⟨gl, 0, none⟩ ∧ Bk w gl (.cells cur 3 (0, 0)) ∧ B ≤ gl ∧ ∀ j, j < N.n → cur[j]? = some (.int .i64 (X j)) := by
  obtain ⟨g', cur, e, hb, hg, h1, h2, hs, ht, hl⟩ := own_cur h.x hn
  exact ⟨g', cur, e, hg, hb, fun j hj => by rw [cur_get ht hj, ints_get _ hj]⟩
theorem Rw.rowy (h : Rw w g B N t A c M d X Y P p u) (hn : 0 < N.k) : ∃ gl cur, M = some ⟨gl, 0, none⟩ ∧ Bk w gl (.cells cur 4 (0, 0)) ∧ B ≤ gl ∧ ∀ j, j < N.k → cur[j]? = some (.bool (Y j)) := by
  obtain ⟨g', cur, e, hb, hg, h1, h2, hs, ht, hl⟩ := own_cur h.y hn
  exact ⟨g', cur, e, hg, hb, fun j hj => by rw [cur_get ht hj, bools_get _ hj]⟩
/-- The block of a row, where it is any. -/
theorem Rw.neM (h : Rw w g B N t A c M d X Y P p u) {gl : Nat} {cur : Array Value} (hg : Bk w gl (.cells cur 3 (0, 0))) : (Value.slice M N.k d).ownBlock ≠ some gl := by
  rcases Nat.eq_zero_or_pos N.k with h0 | h0
  · rcases h.y.2 with ⟨e, _⟩ | ⟨g', cap, cur', e, _, hg', _⟩
    · rw [e]; simp [Value.ownBlock]
    · rw [e]
      simp only [Value.ownBlock]
      exact fun e => bk_ty (show Bk w g' (.cells cur' 4 (0, 0)) from hg') hg (by decide) (by injection e)
  · obtain ⟨gm, cur', rfl, hm, _⟩ := h.rowy h0
    simp only [Value.ownBlock]
    exact fun e => bk_ty hm hg (by decide) (by injection e)
theorem Rw.neA (h : Rw w g B N t A c M d X Y P p u) {gl : Nat} {cur : Array Value} (hg : Bk w gl (.cells cur 4 (0, 0))) : (Value.slice A N.n c).ownBlock ≠ some gl := by
  rcases h.x.2 with ⟨e, _⟩ | ⟨g', cap, cur', e, _, hg', _⟩
  · rw [e]; simp [Value.ownBlock]
  · rw [e]
    simp only [Value.ownBlock]
    exact fun e => bk_ty (show Bk w g' (.cells cur' 3 (0, 0)) from hg') hg (by decide) (by injection e)
theorem Rw.put (h : Rw w g B N t A c M d X Y P p u) {i gl : Nat} (hi : i < N.n) (hA : A = some ⟨gl, 0, none⟩) (v : Int) : Rw (w.setCell ⟨gl, i, none⟩ (.int .i64 v)) g B N t A c M d (upd X i v) Y P p u := by
  obtain ⟨gl', cur, e, hg, _⟩ := h.row (by omega)
  rw [hA] at e
  injection e with e
  injection e with e
  subst e
  subst hA
  exact ⟨bk_set h.b (bk_ty h.b hg (by decide)), own_put h.x hi v, h.y.kept (gb_set (World.grownBy.refl _ (some gl)) i _) (.inr (h.neM hg)), h.g⟩
theorem Rw.at_ (h : Rw w g B N t A c M d X Y P p u) {i : Nat} (hi : i < N.n) : ∃ gl, A = some ⟨gl, 0, none⟩ ∧ w.cell? ⟨gl, i, none⟩ = some (.int .i64 (X i)) ∧ w.frozen? ⟨gl, i, none⟩ = false ∧ B ≤ gl := by
  obtain ⟨gl, cur, e, hg, hb, hc⟩ := h.row (by omega)
  exact ⟨gl, e, (cell_of_row w _ i _ _ _ hg).trans (hc i hi), Bk.fz hg i, hb⟩
/-- The state that a run is at. -/
def Wr (N : Nd) (t : Int) (A : Option Addr) (c : Nat) (M : Option Addr) (d : Nat) (X : Nat → Int) (Y : Nat → Bool) : Wd := ⟨t, A, N.n, c, X, M, N.k, d, Y⟩
theorem own_xs {w : World} {B n c : Nat} {A : Option Addr} {T : TypeId} {xs : List Value} (h : w.ownsRow B T 1 (.slice A n c) n xs) : (∀ i, i < n → ∃ ad, A = some ad ∧ ad.block < w.heap.size ∧ w.cell? (ad.add i) = xs[i]?) ∧ n ≤ c ∧ c ≤ maxLen := by
  rcases h.2 with ⟨e, h0⟩ | ⟨g, cap, cur, e, hb, hg, h1, h2, h3, h4⟩
  · injection e with e1 e2 e3
    subst e1; subst e3
    exact ⟨fun i hi => by omega, by omega, by unfold maxLen; omega⟩
  · injection e with e1 e2 e3
    subst e1; subst e3
    rw [Nat.mul_one] at h4
    exact ⟨fun i hi => ⟨_, rfl, (Array.getElem?_eq_some_iff.1 hg).1, by rw [add0]; exact (cell_of_row w g i _ _ _ hg).trans (cur_get h4 hi)⟩, h1, h2⟩
theorem Rw.wt (h : Rw w g B N t A c M d X Y P p u) : Wt w w.heap.size (Wr N t A c M d X Y) := by
  obtain ⟨a1, a2, a3⟩ := own_xs h.x
  obtain ⟨b1, b2, b3⟩ := own_xs h.y
  exact ⟨fun i hi => by obtain ⟨ad, e, h1, h2⟩ := a1 i hi; exact ⟨ad, e, h1, h2.trans (ints_get _ hi)⟩, fun i hi => by obtain ⟨ad, e, h1, h2⟩ := b1 i hi; exact ⟨ad, e, h1, h2.trans (bools_get _ hi)⟩, Nat.le_refl _, a2, a3, b2, b3⟩
end
theorem take_give (X : Nat → Int) (p q : Int) : take X p q = give X p (-q) := by
  funext k; unfold take give
  by_cases e : (k : Int) = p
  · rw [if_pos e, if_pos e]; omega
  · rw [if_neg e, if_neg e]

/-- All that was there but the blocks of a run is as it was. -/
def Fr3 (g : Nat) (A M : Option Addr) (w w' : World) : Prop := ∀ k, k < w.heap.size → k ≠ g → (∀ a, A = some a → k ≠ a.block) → (∀ a, M = some a → k ≠ a.block) → w'.heap[k]? = w.heap[k]?
section
variable {w w' w2 : World} {g B : Nat} {A M : Option Addr}
theorem Fr3.of_below (h : Below w.heap.size w w') : Fr3 g A M w w' := fun k hk _ _ _ => h.block k hk
theorem Fr3.trans (h : Fr3 g A M w w2) (k : Fr3 g A M w2 w') (hs : w.heap.size ≤ w2.heap.size) : Fr3 g A M w w' := fun j hj a b c => (k j (Nat.lt_of_lt_of_le hj hs) a b c).trans (h j hj a b c)
theorem Fr3.row (hA : A = some ⟨B, 0, none⟩) (i : Nat) (v : Value) : Fr3 g A M w (w.setCell ⟨B, i, none⟩ v) := fun k _ _ h _ => Below.heap_setCell _ _ _ _ (show k ≠ B from h ⟨B, 0, none⟩ hA)
theorem Fr3.rowy (hM : M = some ⟨B, 0, none⟩) (i : Nat) (v : Value) : Fr3 g A M w (w.setCell ⟨B, i, none⟩ v) := fun k _ _ _ h => Below.heap_setCell _ _ _ _ (show k ≠ B from h ⟨B, 0, none⟩ hM)
theorem Fr3.box (i : Nat) (v : Value) : Fr3 g A M w (w.setCell ⟨g, i, none⟩ v) := fun _ _ h _ _ => Below.heap_setCell _ _ _ _ h
theorem own_heap {base n : Nat} {e : TypeId} {v : Value} {xs : List Value} (h : w.ownsRow base e 1 v n xs) (hk : ∀ k, v.ownBlock = some k → w'.heap[k]? = w.heap[k]?) : w'.ownsRow base e 1 v n xs := by
  refine ⟨h.1, ?_⟩
  rcases h.2 with hv | ⟨g, cap, cur, hv, hb, hg, rest⟩
  · exact .inl hv
  · exact .inr ⟨g, cap, cur, hv, hb, (hk g (by rw [hv]; rfl)).trans hg, rest⟩
end
set_option maxRecDepth 100000 in
set_option maxHeartbeats 4000000 in
theorem add_any {w W0 : World} {g B0 c d p u : Nat} {N : Nd} {t : Int} {A M P : Option Addr} {X : Nat → Int} {Y : Nat → Bool} (hR : Rw w g W0.heap.size N t A c M d X Y P p u) (HN : Hid (Nt W0 B0 N)) (Hb : Hid (Below W0.heap.size W0 w)) (Hs : Hid (Nsm N)) (s : ByteArray) (v : Int)
    (hv : ∀ i : Nat, i < N.n → (i : Int) = ixB N s → 0 ≤ X i ∧ X i ≤ 40000000000000) (v0 : -1000000000 ≤ v) (v1 : v ≤ 1000000000) :
    Calls Try.prog 64 #[.pointer (some ⟨g, 0, none⟩), .string s, .int .i64 v] w fun e w' => e = .returned (.tuple #[]) ∧ Rw w' g W0.heap.size N t A c M d (give X (ixB N s) v) Y P p u ∧ Below W0.heap.size W0 w' ∧ Fr3 g A M w w' ∧ w.heap.size ≤ w'.heap.size := by
  have Hv := hid hv
  obtain ⟨ix, hix⟩ : ∃ ix, ixB N s = ix := ⟨_, rfl⟩
  have HI := hid (show Ixn N.n N.bnm s ix from hix ▸ ixB_is N s)
  rw [hix]
  have Hix := hid hix
  clear hv hix
  obtain ⟨x0, x1, x2, x3, x4, x5, x6⟩ := hR.cells
  go_enter Try.func64, Try.ntmps64
  go_wp2_with fail
  refine (findBasin_is HI (HN.out.below Hb.out) Hs.out).mono ?_
  rintro e w2 ⟨rfl, hb⟩
  have R2 := hR.below hb
  have HB2 := hid (Hb.out.trans (hb.mono Hb.out.size))
  have HF := hid (show Fr3 g A M w w2 from Fr3.of_below hb)
  have Hz := hid hb.size
  clear hb hR x0 x1 x2 x3 x4 x5 x6
  rcases HI.out with ⟨rfl, _⟩ | ⟨i, hi, _, _, rfl⟩
  · go_wp2
    exact Go.Great.bodyPost_end0 rfl rfl ⟨rfl, by rw [give_neg]; exact R2, HB2.out, HF.out, Hz.out⟩
  · have hvi := Hv.out i hi (by rw [Hix.out])
    obtain ⟨gl, hA, q0, q1, q2⟩ := R2.at_ hi
    have hiI : (i : Int) < (N.n : Int) := by omega
    have hw : IntKind.i64.wrap (X i + v) = X i + v := IntWalk.i64_in _ (by omega)
    obtain ⟨x0, x1, x2, x3, x4, x5, x6⟩ := R2.cells
    rw [hA] at x4
    have R3 := R2.put hi hA (X i + v)
    rw [← give_at] at R3
    have HB3 := hid (HB2.out.setCell (p := ⟨gl, i, none⟩) q2 (.int .i64 (X i + v)))
    have HF3 := hid (HF.out.trans (Fr3.row hA i (.int .i64 (X i + v))) Hz.out)
    clear hA
    go_wp2
    exact Go.Great.bodyPost_end0 rfl rfl ⟨rfl, R3, HB3.out, HF3.out, by simpa [World.setCell] using Hz.out⟩


/-- Whether a run at the minute t may go on for m minutes. -/
def lstB (t m : Int) : Bool := inB m 0 10000 && decide (t + m ≤ 1000000)
set_option maxRecDepth 100000 in
set_option maxHeartbeats 4000000 in
theorem lasts_any {w : World} {g B c d p u : Nat} {N : Nd} {t : Int} {A M P : Option Addr} {X : Nat → Int} {Y : Nat → Bool} (hR : Rw w g B N t A c M d X Y P p u) (t0 : 0 ≤ t) (t1 : t ≤ 1000000) (m : Int) :
    Calls Try.prog 35 #[.pointer (some ⟨g, 0, none⟩), .int .i64 m] w fun e w' => e = .returned (.bool (lstB t m)) ∧ Below w.heap.size w w' := by
  obtain ⟨v, hv⟩ : ∃ v, lstB t m = v := ⟨_, rfl⟩
  rw [hv]
  have HR := hid hR
  have q3 := hR.cells.2.2.2.1
  clear hR
  cases hm : inB m 0 10000
  case false =>
    have hv' : false = v := by rw [← hv]; unfold lstB; rw [hm]; rfl
    subst hv'
    clear hv
    go_enter Try.func35, Try.ntmps35
    go_wp2_with ((with_reducible refine (Within_any _ _ _ _).mono ?_); rintro e w' ⟨rfl, rfl⟩)
    go_ret
    exact ⟨rfl, Below.refl _ _⟩
  case true =>
    have hm' := inB_iff.1 hm
    have hw1 : IntKind.i64.wrap (t + m) = t + m := IntWalk.i64_in _ (by omega)
    have hv' : decide (t + m ≤ 1000000) = v := by rw [← hv]; unfold lstB; rw [hm]; rfl
    clear hv
    go_enter Try.func35, Try.ntmps35
    go_wp2_with ((with_reducible refine (Within_any _ _ _ _).mono ?_); rintro e w' ⟨rfl, rfl⟩)
    go_ret
    exact ⟨rfl, Below.refl _ _⟩

/-- A run in its box, and basin i of its network. -/
structure Rb (w : World) (g B B0 : Nat) (N : Nd) (t : Int) (A : Option Addr) (c : Nat) (M : Option Addr) (d : Nat) (X : Nat → Int) (Y : Nat → Bool) (P : Option Addr) (p u gl : Nat) (ab : Addr) (i : Nat) : Prop where
  r : Rw w g B N t A c M d X Y P p u
  n : Nt w B0 N
  hA : A = some ⟨gl, 0, none⟩
  hab : N.A = some ab
  i : i < N.n
theorem Rb.below {w w' : World} {g B B0 c d p u gl i : Nat} {N : Nd} {t : Int} {A M P : Option Addr} {X : Nat → Int} {Y : Nat → Bool} {ab : Addr} (h : Rb w g B B0 N t A c M d X Y P p u gl ab i) (hb : Below w.heap.size w w') : Rb w' g B B0 N t A c M d X Y P p u gl ab i := ⟨h.r.below hb, h.n.below hb, h.hA, h.hab, h.i⟩
theorem Rb.pa {w : World} {g B B0 c d p u gl i : Nat} {N : Nd} {t : Int} {A M P : Option Addr} {X : Nat → Int} {Y : Nat → Bool} {ab : Addr} (h : Rb w g B B0 N t A c M d X Y P p u gl ab i) : Pa w B0 (N.b i).A (N.b i).n (N.b i).F (N.b i).S ∧ (N.b i).n ≤ (N.b i).c ∧ (N.b i).c ≤ maxLen := by
  obtain ⟨ad', hA, _, q1, q2, q3, h1, h2, h3⟩ := h.n.b.at_ i h.i
  exact ⟨h1, h2, h3⟩
theorem Rb.cells {w : World} {g B B0 c d p u gl i : Nat} {N : Nd} {t : Int} {A M P : Option Addr} {X : Nat → Int} {Y : Nat → Bool} {ab : Addr} (h : Rb w g B B0 N t A c M d X Y P p u gl ab i) : w.cell? ⟨g, 0, none⟩ = some (.slice (some ab) N.n N.c) ∧ w.cell? ⟨g, 4, none⟩ = some (.slice (some ⟨gl, 0, none⟩) N.n c) ∧ w.cell? (ab.add (i * 3)) = some (.string (N.b i).nm) ∧ w.cell? ⟨(ab.add (i * 3)).block, (ab.add (i * 3)).off + 1, none⟩ = some (.slice (N.b i).A (N.b i).n (N.b i).c) ∧ w.cell? ⟨(ab.add (i * 3)).block, (ab.add (i * 3)).off + 2, none⟩ = some (.int .i64 (N.b i).rim) ∧ w.cell? ⟨gl, i, none⟩ = some (.int .i64 (X i)) := by
  obtain ⟨x0, x1, x2, x3, x4, x5, x6⟩ := h.r.cells
  obtain ⟨ad', hA, _, q1, q2, q3, _⟩ := h.n.b.at_ i h.i
  rw [h.hab] at hA x0
  injection hA with hA
  subst hA
  obtain ⟨gl', e, hc, _⟩ := h.r.at_ h.i
  rw [h.hA] at e x4
  injection e with e
  injection e with e
  subst e
  exact ⟨x0, x4, q1, q2, q3, hc⟩
set_option maxRecDepth 100000 in
set_option maxHeartbeats 4000000 in
theorem level_any {w : World} {g B B0 c d p u i : Nat} {N : Nd} {t : Int} {A M P : Option Addr} {X : Nat → Int} {Y : Nat → Bool} (hR : Rw w g B N t A c M d X Y P p u) (h : Nt w B0 N) (hF : Hid (Fit N (Wp N t X Y))) (Hs : Hid (Nsm N)) (hi : i < N.n) :
    Calls Try.prog 50 #[.pointer (some ⟨g, 0, none⟩), .int .i64 i] w fun e w' => e = .returned (.int .i64 (lvB (N.b i) (X i))) ∧ Below w.heap.size w w' := by
  have B := hF.out.c.bas hi
  have hx : 0 ≤ X i ∧ X i ≤ capB (N.b i) := hF.out.l i hi
  have hL := lvB_lev B hx.1 hx.2
  obtain ⟨r, hr⟩ : ∃ r, lvB (N.b i) (X i) = r := ⟨_, rfl⟩
  rw [hr] at hL ⊢
  have HL := hid hL
  have HX := hid hx
  have HV := hid (show X i ≤ wbelow (N.b i).F (N.b i).S (N.b i).n (N.b i).rim from hx.2)
  have hn9 := Hs.out.n
  clear hr hL hx
  obtain ⟨gl, hA, -, -, -⟩ := hR.at_ hi
  obtain ⟨ab, hab, -⟩ := h.b.at_ i hi
  have D0 : Rb w.drew g _ B0 N t A c M d X Y P p u gl ab i := (Rb.mk hR h hA hab hi).below dr0
  have hiI : (i : Int) < (N.n : Int) := by omega
  clear hR h hA hab
  go_enter Try.func50, Try.ntmps50
  go_wp2_with fail
  go_region_held3 (fun w' => w'.cell? ⟨g, 0, none⟩ = some (.slice (some ab) N.n N.c) ∧ w'.cell? ⟨g, 4, none⟩ = some (.slice (some ⟨gl, 0, none⟩) N.n c) ∧ w'.cell? (ab.add (i * 3)) = some (.string (N.b i).nm) ∧ w'.cell? ⟨(ab.add (i * 3)).block, (ab.add (i * 3)).off + 1, none⟩ = some (.slice (N.b i).A (N.b i).n (N.b i).c) ∧ w'.cell? ⟨(ab.add (i * 3)).block, (ab.add (i * 3)).off + 2, none⟩ = some (.int .i64 (N.b i).rim) ∧ w'.cell? ⟨gl, i, none⟩ = some (.int .i64 (X i))) (first | with_reducible exact Rb.cells D0 | with_reducible exact Rb.cells D1) (first
    | (go_at_call 54; with_reducible refine (levelOf_any (N.b i).nm D0.pa.1 B D0.pa.2.1 D0.pa.2.2 HX.out.1 HV.out HL.out).mono ?_; rintro e w3 ⟨rfl, hb3⟩; have D1 := D0.below hb3))
  all_goals
    have HB3 := hid (bthen dr0 hb3 (Nat.le_refl _))
    clear hb3
    go_wp2
    go_ret
    exact ⟨rfl, HB3.out⟩

end Go.Proofs.Ytockfiobhmohnaa

