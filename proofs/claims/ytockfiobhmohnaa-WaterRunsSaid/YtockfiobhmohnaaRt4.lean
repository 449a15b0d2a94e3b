/- Networks: what a link does as a number; minute of the program. For every run. -/
import Derived.Test.YtockfiobhmohnaaRt3
namespace Go.Proofs.Ytockfiobhmohnaa
open Go.RowKit Go.Maps Kb Wb

theorem floR_of {N : Nd} {W : Wd} {i : Nat} {q : Bool} {z x : Int} {b : Bd} {q2 : Bool} {z2 x2 : Int} {b2 : Bd} {o : Bool} {r : Int} (h1 : Sds N W (N.l i).fr q z b x) (h2 : Sds N W (N.l i).tw q2 z2 b2 x2) (h : Flw (N.l i) o q z b x q2 z2 b2 x2 r) : FloR N W.min W.X o i r := ⟨q, z, b, x, q2, z2, b2, x2, h1, h2, h⟩
theorem sides {N : Nd} (hC : Cn N 0) {i : Nat} (hi : i < N.k) (W : Wd) : ∃ q z b x q2 z2 b2 x2, Sds N W (N.l i).fr q z b x ∧ Sds N W (N.l i).tw q2 z2 b2 x2 := by
  obtain ⟨_, _, e1, e2, hm⟩ := link_ok hC hi
  obtain ⟨q, z, b, x, S1⟩ := Sds.exists (W := W) e1 (fun e => hm (.inl e))
  obtain ⟨q2, z2, b2, x2, S2⟩ := Sds.exists (W := W) e2 (fun e => hm (.inr e))
  exact ⟨q, z, b, x, q2, z2, b2, x2, S1, S2⟩
theorem flow_is {w : World} {B0 B1 : Nat} {N : Nd} {W : Wd} {i : Nat} {o : Bool} (ho : W.Y i = o) (HF : Hid (Fit N W)) (Hs : Hid (Nsm N)) (h : Nt w B0 N) (hw : Wt w B1 W) (hi : i < N.k) :
    Calls Try.prog 63 #[.agg #[.slice N.A N.n N.c, .slice N.M N.m N.d, .slice N.K N.k N.e], .agg #[.int .i64 W.min, .slice W.A W.n W.c, .slice W.M W.m W.d], .int .i64 i] w fun e w' => e = .returned (.int .i64 (flo N W.min W.X o i)) ∧ Below w.heap.size w w' := by
  obtain ⟨q, z, b, x, q2, z2, b2, x2, S1, S2⟩ := sides HF.out.c hi W
  refine (flow_any (hid S1) (hid S2) HF Hs h hw hi).mono ?_
  rintro e w' ⟨r, rfl, hr, hb⟩
  rw [ho] at hr
  rw [(floR_of S1 S2 hr.out).is]
  exact ⟨rfl, hb⟩
theorem Act_flo {w : World} {B0 B1 : Nat} {N : Nd} {W : Wd} {i : Nat} (HF : Hid (Fit N W)) (Hs : Hid (Nsm N)) (h : Nt w B0 N) (hw : Wt w B1 W) (hi : i < N.k) :
    Calls Try.prog 42 #[.agg #[.slice N.A N.n N.c, .slice N.M N.m N.d, .slice N.K N.k N.e], .agg #[.int .i64 W.min, .slice W.A W.n W.c, .slice W.M W.m W.d], .agg #[.string (N.l i).nm, .int .i64 (N.l i).kind, .string (N.l i).fr, .string (N.l i).tw, .int .i64 (N.l i).sill, .int .i64 (N.l i).rate, .int .i64 (N.l i).fac, .int .i64 (N.l i).lift]] w fun e w' => e = .returned (.int .i64 (flo N W.min W.X true i)) ∧ Below w.heap.size w w' := by
  obtain ⟨q, z, b, x, q2, z2, b2, x2, S1, S2⟩ := sides HF.out.c hi W
  refine (Act_is (hid S1) (hid S2) HF Hs h hw hi).mono ?_
  rintro e w' ⟨r, rfl, hr, hb⟩
  rw [(floR_of S1 S2 hr.out).is]
  exact ⟨rfl, hb⟩
theorem flo_shut (N : Nd) (t : Int) (X : Nat → Int) (i : Nat) (hC : Cn N 0) (hi : i < N.k) : flo N t X false i = 0 := by
  obtain ⟨q, z, b, x, q2, z2, b2, x2, S1, S2⟩ := sides hC hi (Wp N t X fun _ => false)
  exact (FloR.is ⟨q, z, b, x, q2, z2, b2, x2, S1, S2, .inl ⟨rfl, rfl⟩⟩).symm
def updY (Y : Nat → Bool) (i : Nat) (v : Bool) : Nat → Bool := fun k => if k = i then v else Y k
theorem updB_at (Y : Nat → Bool) (i : Nat) (v : Bool) : updB Y i v = updY Y i v := by
  funext k; unfold updB updY
  by_cases e : k = i
  · subst e; rw [if_pos rfl, if_pos rfl]
  · rw [if_neg (by omega), if_neg e]
theorem own_putY {w : World} {B n c g : Nat} {Y : Nat → Bool} (h : w.ownsRow B 4 1 (.slice (some ⟨g, 0, none⟩) n c) n (bools Y n)) {i : Nat} (hi : i < n) (v : Bool) : (w.setCell ⟨g, i, none⟩ (.bool v)).ownsRow B 4 1 (.slice (some ⟨g, 0, none⟩) n c) n (bools (updY Y i v) n) := by
  obtain ⟨g', cur, e, hb, hg, hn, hm, hs, ht, hl⟩ := own_cur h (by omega)
  injection e with e
  injection e with e
  subst e
  refine ⟨by rw [bools_len, Nat.mul_one], .inr ⟨g, c, cur.setIfInBounds i (.bool v), rfl, hb, ?_, hn, hm, by rw [Array.size_setIfInBounds, hs, Nat.mul_one], ?_⟩⟩
  · unfold Bk at hg
    simp only [World.setCell, Array.getElem?_modify, hg]
    simp
  · rw [Nat.mul_one]
    refine List.ext_getElem? fun j => ?_
    by_cases hj : j < n
    · rw [List.getElem?_take_of_lt hj, bools_get _ hj]
      have hc := cur_get ht hj
      rw [bools_get _ hj] at hc
      rw [Array.getElem?_toList, Array.getElem?_setIfInBounds, hc]
      unfold updY
      by_cases e : i = j
      · subst e; rw [if_pos rfl, if_pos (by omega), if_pos rfl]
      · rw [if_neg e, if_neg (fun e2 => e e2.symm)]
    · rw [List.getElem?_eq_none (by rw [List.length_take]; omega), List.getElem?_eq_none (by rw [bools_len]; omega)]
section
variable {w w' : World} {g B c d p u : Nat} {N : Nd} {t : Int} {A M P : Option Addr} {X : Nat → Int} {Y : Nat → Bool}
theorem Rw.putY (h : Rw w g B N t A c M d X Y P p u) {i gm : Nat} (hi : i < N.k) (hM : M = some ⟨gm, 0, none⟩) (v : Bool) : Rw (w.setCell ⟨gm, i, none⟩ (.bool v)) g B N t A c M d X (updY Y i v) P p u := by
  obtain ⟨gl', cur, e, hg, _⟩ := h.rowy (by omega)
  rw [hM] at e
  injection e with e
  injection e with e
  subst e
  subst hM
  exact ⟨bk_set h.b (bk_ty h.b hg (by decide)), h.x.kept (gb_set (World.grownBy.refl _ (some gm)) i _) (.inr (h.neA hg)), own_putY h.y hi v, h.g⟩
theorem Rw.aty (h : Rw w g B N t A c M d X Y P p u) {i : Nat} (hi : i < N.k) : ∃ gm, M = some ⟨gm, 0, none⟩ ∧ w.cell? ⟨gm, i, none⟩ = some (.bool (Y i)) ∧ w.frozen? ⟨gm, i, none⟩ = false ∧ B ≤ gm ∧ g ≠ gm := by
  obtain ⟨gl, cur, e, hg, hb, hc⟩ := h.rowy (by omega)
  exact ⟨gl, e, (cell_of_row w _ i _ _ _ hg).trans (hc i hi), Bk.fz hg i, hb, bk_ty h.b hg (by decide)⟩
/-- The blocks of a run are older than another one. -/
theorem Rw.old (h : Rw w g B N t A c M d X Y P p u) : g < w.heap.size ∧ (∀ k, (Value.slice A N.n c).ownBlock = some k → k < w.heap.size) ∧ ∀ k, (Value.slice M N.k d).ownBlock = some k → k < w.heap.size :=
  ⟨h.b.lt, fun k hk => (h.x.lt k hk).2, fun k hk => (h.y.lt k hk).2⟩
theorem Rw.off (h : Rw w g B N t A c M d X Y P p u) {k i : Nat} (h1 : g ≠ k) (h2 : (Value.slice A N.n c).ownBlock ≠ some k) (h3 : (Value.slice M N.k d).ownBlock ≠ some k) (v : Value) : Rw (w.setCell ⟨k, i, none⟩ v) g B N t A c M d X Y P p u :=
  ⟨bk_set h.b h1, h.x.kept (gb_set (World.grownBy.refl _ (some k)) i _) (.inr h2), h.y.kept (gb_set (World.grownBy.refl _ (some k)) i _) (.inr h3), h.g⟩
/-- A run and a turn in boxes. -/
structure Rtb (w : World) (g B : Nat) (N : Nd) (t : Int) (A : Option Addr) (c : Nat) (M : Option Addr) (d : Nat) (X : Nat → Int) (Y : Nat → Bool) (P : Option Addr) (T : Tn) (u gt i : Nat) : Prop where
  r : Rw w g B N t A c M d X Y P T.p u
  t : Bk w gt (.cells #[.int .i64 (T.tm i), .string (T.tl i), .bool (T.tp i)] 75 (0, 0))
end
theorem Rtb.below {w w' : World} {g B c d u gt i : Nat} {N : Nd} {T : Tn} {t : Int} {A M P : Option Addr} {X : Nat → Int} {Y : Nat → Bool} (h : Rtb w g B N t A c M d X Y P T u gt i) (hb : Below w.heap.size w w') : Rtb w' g B N t A c M d X Y P T u gt i := ⟨h.r.below hb, h.t.step hb⟩

theorem Rtb.cells {w : World} {g B c d u gt i : Nat} {N : Nd} {T : Tn} {t : Int} {A M P : Option Addr} {X : Nat → Int} {Y : Nat → Bool} (h : Rtb w g B N t A c M d X Y P T u gt i) : w.cell? ⟨g, 0, none⟩ = some (.slice N.A N.n N.c) ∧ w.cell? ⟨g, 1, none⟩ = some (.slice N.M N.m N.d) ∧ w.cell? ⟨g, 2, none⟩ = some (.slice N.K N.k N.e) ∧ w.cell? ⟨g, 3, none⟩ = some (.int .i64 t) ∧ w.cell? ⟨g, 4, none⟩ = some (.slice A N.n c) ∧ w.cell? ⟨g, 5, none⟩ = some (.slice M N.k d) ∧ w.cell? ⟨g, 6, none⟩ = some (.slice P T.p u) ∧ w.cell? ⟨gt, 0, none⟩ = some (.int .i64 (T.tm i)) ∧ w.cell? ⟨gt, 1, none⟩ = some (.string (T.tl i)) ∧ w.cell? ⟨gt, 2, none⟩ = some (.bool (T.tp i)) := by
  obtain ⟨x0, x1, x2, x3, x4, x5, x6⟩ := h.r.cells
  exact ⟨x0, x1, x2, x3, x4, x5, x6, h.t.c3⟩
theorem Rtb.put {w : World} {g B c d u gt gm i j : Nat} {N : Nd} {T : Tn} {t : Int} {A P : Option Addr} {X : Nat → Int} {Y : Nat → Bool} (h : Rtb w g B N t A c (some ⟨gm, 0, none⟩) d X Y P T u gt i) (hj : j < N.k) (v : Bool) : Rtb (w.setCell ⟨gm, j, none⟩ (.bool v)) g B N t A c (some ⟨gm, 0, none⟩) d X (updY Y j v) P T u gt i := by
  refine ⟨h.r.putY hj rfl v, ?_⟩
  obtain ⟨gl', cur, e, hg, _⟩ := h.r.rowy (by omega)
  injection e with e
  injection e with e
  subst e
  exact bk_set h.t (bk_ty h.t hg (by decide))
theorem madeCells_i64 (n : Nat) : madeCells #[Value.int .i64 0] (n * 1) = (List.replicate n (Value.int .i64 0)).toArray := by
  apply Array.ext
  · simp [madeCells]
  · intro i h1 h2
    simp [madeCells, Nat.mod_one]
theorem run_make_ints (n : Nat) (hn : n ≤ 100000000) (w : World) : (Instr.makeSlice 27 (.int .i64 (n : Int)) (.int .i64 (n : Int))).run Try.prog w = .ok (.slice (some ⟨w.heap.size, 0, none⟩) n n) (w.alloc (.cells (List.replicate n (Value.int .i64 0)).toArray 3)) := by
  obtain ⟨i0, hi0, hz0, hz1, hz2⟩ := info_parts info_int
  rw [run_make (P := Try.prog) w 27 3 i0 (.int .i64 0) Try.underlying27 hi0 hz0 .i64 .i64 n n (Int.natCast_nonneg n) (Int.le_refl _) (by rw [hz2, ← Int.natCast_mul]; omega) (by omega)]
  rw [hz1, Int.toNat_natCast, show (Value.int .i64 0).cells = #[Value.int .i64 0] from rfl, madeCells_i64]
/-- What the links have done so far. -/
noncomputable def fzX (N : Nd) (t : Int) (Y : Nat → Bool) (X : Nat → Int) (i : Nat) : Nat → Int := fun j => if j < i then fwX N t Y X j else 0
theorem fzX_succ (N : Nd) (t : Int) (Y : Nat → Bool) (X : Nat → Int) (i : Nat) : fzX N t Y X (i + 1) = upd (fzX N t Y X i) i (fwX N t Y X i) := by
  funext j; unfold fzX upd
  by_cases e : j = i
  · subst e; rw [if_pos (by omega), if_pos rfl]
  · rw [if_neg e]
    show (if j < i + 1 then fwX N t Y X j else 0) = if j < i then fwX N t Y X j else 0
    by_cases e2 : j < i
    · rw [if_pos e2, if_pos (by omega)]
    · rw [if_neg e2, if_neg (by omega)]
theorem ints_cgr {X Z : Nat → Int} {n : Nat} (h : ∀ i, i < n → X i = Z i) : ints X n = ints Z n := by
  unfold ints
  refine List.map_congr_left fun i hi => ?_
  rw [h i (List.mem_range.1 hi)]
/-- A row of n integers of the call's own at the block gf. -/
def Own (b : Nat) (w : World) (gf n : Nat) (Z : Nat → Int) : Prop := w.ownsRow b 3 1 (.slice (some ⟨gf, 0, none⟩) n n) n (ints Z n)
theorem Own.new {w : World} {b gf n : Nat} {N : Nd} {t : Int} {Y : Nat → Bool} {X : Nat → Int} (hb : b ≤ gf) (h : Bk w gf (.cells (Array.replicate n (Value.int .i64 0)) 3 (0, 0))) (hn : n ≤ maxLen := by unfold maxLen; omega) : Own b w gf n (fzX N t Y X 0) := by
  refine ⟨by rw [ints_len, Nat.mul_one], .inr ⟨gf, n, _, rfl, hb, h, Nat.le_refl _, hn, by simp, ?_⟩⟩
  rw [Nat.mul_one, List.take_of_length_le (by simp)]
  refine List.ext_getElem? fun j => ?_
  by_cases hj : j < n
  · rw [ints_get _ hj]
    simp [hj, fzX]
  · rw [List.getElem?_eq_none (by simp; omega), List.getElem?_eq_none (by rw [ints_len]; omega)]
/-- Where the blocks of a run lie: ahead of G. -/
def Olds (G g : Nat) (A M : Option Addr) : Prop := g < G ∧ (∀ a, A = some a → a.block < G) ∧ ∀ a, M = some a → a.block < G
theorem Rw.olds {w : World} {g B c d p u : Nat} {N : Nd} {t : Int} {A M P : Option Addr} {X : Nat → Int} {Y : Nat → Bool} (h : Rw w g B N t A c M d X Y P p u) : Olds w.heap.size g A M :=
  ⟨h.old.1, fun a e => h.old.2.1 _ (by rw [e]; rfl), fun a e => h.old.2.2 _ (by rw [e]; rfl)⟩
theorem Own.lt {w : World} {b gf n : Nat} {Z : Nat → Int} (h : Own b w gf n Z) : gf < w.heap.size := (World.ownsRow.lt h gf rfl).2
theorem Own.at_ {w : World} {b gf n i : Nat} {Z : Nat → Int} (h : Own b w gf n Z) (hi : i < n) : w.cell? ⟨gf, i, none⟩ = some (.int .i64 (Z i)) ∧ w.frozen? ⟨gf, i, none⟩ = false := by
  obtain ⟨g', cur, e, hb, hg, h1, h2, hs, ht, hl⟩ := own_cur h (by omega)
  injection e with e
  injection e with e
  subst e
  exact ⟨(cell_of_row w _ i _ _ _ hg).trans (by rw [cur_get ht hi]; exact ints_get _ hi), Bk.fz hg i⟩
/-- A run, a link in a box, and what the links have done. -/
structure Rlb (w : World) (g B : Nat) (N : Nd) (t : Int) (A : Option Addr) (c : Nat) (M : Option Addr) (d : Nat) (X : Nat → Int) (Y : Nat → Bool) (P : Option Addr) (p u gb i b gf : Nat) (Z : Nat → Int) : Prop where
  r : Rw w g B N t A c M d X Y P p u
  l : Bk w gb (.cells #[.string (N.l i).nm, .int .i64 (N.l i).kind, .string (N.l i).fr, .string (N.l i).tw, .int .i64 (N.l i).sill, .int .i64 (N.l i).rate, .int .i64 (N.l i).fac, .int .i64 (N.l i).lift] 49 (0, 0))
  f : Own b w gf N.k Z
section
variable {w w' : World} {g B c d p u gb i b gf : Nat} {N : Nd} {t : Int} {A M P : Option Addr} {X Z : Nat → Int} {Y : Nat → Bool}
theorem Rlb.below (h : Rlb w g B N t A c M d X Y P p u gb i b gf Z) (hb : Below w.heap.size w w') : Rlb w' g B N t A c M d X Y P p u gb i b gf Z := ⟨h.r.below hb, h.l.step hb, own_below h.f hb⟩
theorem Rlb.cells (h : Rlb w g B N t A c M d X Y P p u gb i b gf Z) : w.cell? ⟨g, 0, none⟩ = some (.slice N.A N.n N.c) ∧ w.cell? ⟨g, 1, none⟩ = some (.slice N.M N.m N.d) ∧ w.cell? ⟨g, 2, none⟩ = some (.slice N.K N.k N.e) ∧ w.cell? ⟨g, 3, none⟩ = some (.int .i64 t) ∧ w.cell? ⟨g, 4, none⟩ = some (.slice A N.n c) ∧ w.cell? ⟨g, 5, none⟩ = some (.slice M N.k d) ∧ w.cell? ⟨gb, 2, none⟩ = some (.string (N.l i).fr) ∧ w.cell? ⟨gb, 3, none⟩ = some (.string (N.l i).tw) := by
  obtain ⟨x0, x1, x2, x3, x4, x5, x6⟩ := h.r.cells
  have hh := fun j => cell_of_row w gb j _ _ _ h.l
  exact ⟨x0, x1, x2, x3, x4, x5, hh 2, hh 3⟩
theorem Rlb.at_ (h : Rlb w g B N t A c M d X Y P p u gb i b gf Z) {j : Nat} (hj : j < N.k) : w.cell? ⟨gf, j, none⟩ = some (.int .i64 (Z j)) ∧ w.frozen? ⟨gf, j, none⟩ = false := h.f.at_ hj
theorem Rw.offO (h : Rw w g B N t A c M d X Y P p u) {G k i : Nat} (ho : Olds G g A M) (hk : G ≤ k) (v : Value) : Rw (w.setCell ⟨k, i, none⟩ v) g B N t A c M d X Y P p u := by
  refine h.off (by have := ho.1; omega) ?_ ?_ v
  · cases hA : A with
    | none => simp [Value.ownBlock]
    | some a => have := ho.2.1 a hA; simp only [Value.ownBlock]; intro e; injection e with e; omega
  · cases hM : M with
    | none => simp [Value.ownBlock]
    | some a => have := ho.2.2 a hM; simp only [Value.ownBlock]; intro e; injection e with e; omega
theorem Rlb.put (h : Rlb w g B N t A c M d X Y P p u gb i b gf Z) {j G : Nat} (hj : j < N.k) (ho : Olds G g A M) (_ : G ≤ gb) (h1 : gf < gb) (h2 : G ≤ gf ∧ True) (v : Int) : Rlb (w.setCell ⟨gf, j, none⟩ (.int .i64 v)) g B N t A c M d X Y P p u gb i b gf (upd Z j v) :=
  ⟨h.r.offO ho h2.1 _, bk_set h.l (by omega), own_put h.f hj v⟩
end
theorem Rw.putMin {w : World} {g B c d p u : Nat} {N : Nd} {t : Int} {A M P : Option Addr} {X : Nat → Int} {Y : Nat → Bool} (h : Rw w g B N t A c M d X Y P p u) (v : Int) : Rw (w.setCell ⟨g, 3, none⟩ (.int .i64 v)) g B N v A c M d X Y P p u := by
  refine ⟨?_, ?_, ?_, h.g⟩
  · have hb := h.b
    unfold Bk at hb ⊢
    simp only [World.setCell, Array.getElem?_modify, hb]
    simp
  · refine h.x.kept (gb_set (World.grownBy.refl _ (some g)) 3 _) (.inr ?_)
    rcases h.x.2 with ⟨e, _⟩ | ⟨g', cap, cur', e, _, hg', _⟩
    · rw [e]; simp [Value.ownBlock]
    · rw [e]
      simp only [Value.ownBlock]
      exact fun e => bk_ty h.b (show Bk w g' (.cells cur' 3 (0, 0)) from hg') (by decide) (by injection e with e; exact e.symm)
  · refine h.y.kept (gb_set (World.grownBy.refl _ (some g)) 3 _) (.inr ?_)
    rcases h.y.2 with ⟨e, _⟩ | ⟨g', cap, cur', e, _, hg', _⟩
    · rw [e]; simp [Value.ownBlock]
    · rw [e]
      simp only [Value.ownBlock]
      exact fun e => bk_ty h.b (show Bk w g' (.cells cur' 4 (0, 0)) from hg') (by decide) (by injection e with e; exact e.symm)
theorem Fr3.off {w w2 : World} {g k : Nat} {A M : Option Addr} (h : Fr3 g A M w w2) (hk : w.heap.size ≤ k) (i : Nat) (v : Value) : Fr3 g A M w (w2.setCell ⟨k, i, none⟩ v) := fun j hj a b c => (Below.heap_setCell _ _ _ _ (show j ≠ k by omega)).trans (h j hj a b c)
theorem Fr3.at_ {w w2 : World} {g k G : Nat} {A M : Option Addr} (h : Fr3 g A M w w2) (ho : Olds G g A M) (hk : G ≤ k) (hl : k < w.heap.size) : w2.heap[k]? = w.heap[k]? :=
  h k hl (by have := ho.1; omega) (fun a e => by have := ho.2.1 a e; omega) (fun a e => by have := ho.2.2 a e; omega)
theorem Rlb.moved {w w' : World} {g B c d p u gb i b gf G : Nat} {N : Nd} {t : Int} {A M P : Option Addr} {X X' Z : Nat → Int} {Y : Nat → Bool} (h : Rlb w g B N t A c M d X Y P p u gb i b gf Z) (hr : Rw w' g B N t A c M d X' Y P p u) (hf : Fr3 g A M w w') (ho : Olds G g A M) (h1 : G ≤ gb) (h2 : G ≤ gf) : Rlb w' g B N t A c M d X' Y P p u gb i b gf Z :=
  ⟨hr, (hf.at_ ho h1 h.l.lt).trans h.l, own_heap h.f fun k hk => by
    have e : gf = k := by simpa [Value.ownBlock] using hk
    subst e
    exact hf.at_ ho h2 h.f.lt⟩
theorem Rlb.cells9 {w : World} {g B c d p u gb i b gf : Nat} {N : Nd} {t : Int} {A M P : Option Addr} {X Z : Nat → Int} {Y : Nat → Bool} {r : Int} (h : Rlb w g B N t A c M d X Y P p u gb i b gf (upd Z i r)) (hi : i < N.k) : w.cell? ⟨gb, 2, none⟩ = some (.string (N.l i).fr) ∧ w.cell? ⟨gb, 3, none⟩ = some (.string (N.l i).tw) ∧ w.cell? ⟨gf, i, none⟩ = some (.int .i64 r) := by
  have hh := fun j => cell_of_row w gb j _ _ _ h.l
  have h2 := (h.f.at_ hi).1
  unfold upd at h2
  rw [if_pos rfl] at h2
  exact ⟨hh 2, hh 3, h2⟩
theorem Fit.lit {N : Nd} {t : Int} {X : Nat → Int} {Y : Nat → Bool} (h : Fit N (Wp N t X Y)) {j : Nat} (hj : j < N.n) : 0 ≤ X j ∧ X j ≤ 40000000000000 := by
  have h1 : 0 ≤ X j ∧ X j ≤ capB (N.b j) := h.l j hj
  have h2 := capB_range (h.c.bas hj)
  omega
theorem ixB_ne {N : Nd} (hC : Cn N 0) {i : Nat} (hi : i < N.k) : ixB N (N.l i).fr ≠ ixB N (N.l i).tw := by
  obtain ⟨q, z, b, x, q2, z2, b2, x2, S1, S2⟩ := sides hC hi (Wp N 0 (fun _ => 0) fun _ => false)
  exact place_ne S1 S2 (ixB_is N _) (ixB_is N _) (link_ne hC hi)
set_option maxRecDepth 100000 in
set_option maxHeartbeats 8000000 in
theorem minute_any {w W0 : World} {g B0 B2 c d u : Nat} {N : Nd} {T : Tn} {t : Int} {A M P : Option Addr} {X : Nat → Int} {Y : Nat → Bool} (hR : Rw w g W0.heap.size N t A c M d X Y P T.p u) (HN : Hid (Nt W0 B0 N)) (HT : Hid (Tl W0 B2 P T.p T.tm T.tl T.tp)) (Hb : Hid (Below W0.heap.size W0 w)) (Hs : Hid (Nsm N)) (Hte : Hid (Te N T 0)) (HF : Hid (Fit N (Wp N t X Y))) :
    Calls Try.prog 36 #[.pointer (some ⟨g, 0, none⟩)] w fun e w' => ∃ v, e = .returned v ∧ w'.ownsRow w.heap.size 3 1 v N.k (ints (fwX N t (tuY N T t Y T.p) X) N.k) ∧ Rw w' g W0.heap.size N (t + 1) A c M d (stX N t (tuY N T t Y T.p) X N.k) (tuY N T t Y T.p) P T.p u ∧ Below W0.heap.size W0 w' ∧ Fr3 g A M w w' ∧ w.heap.size ≤ w'.heap.size := by
  have hp := Hte.out.zero.1
  have HG := hid Hte.out.zero.2
  obtain ⟨x0, x1, x2, x3, x4, x5, x6⟩ := hR.cells
  go_enter Try.func36, Try.ntmps36
  go_wp2_with fail
  clear x0 x1 x2 x3 x4 x5 x6
  go_loopw [13] (fun iv wr => ∃ i : Nat, i ≤ T.p ∧ iv = .int .i64 i ∧ Rw wr g W0.heap.size N t A c M d X (tuY N T t Y i) P T.p u ∧ Below W0.heap.size W0 wr ∧ Fr3 g A M w wr ∧ w.heap.size ≤ wr.heap.size) (fun iv _ => T.p - (intOf iv).toNat)
  case atStart => exact ⟨0, Nat.zero_le _, rfl, hR, Hb.out, fun _ _ _ _ _ => rfl, Nat.le_refl _⟩
  case round =>
    obtain ⟨i, hi, rfl, R1, hb1, hf1, hz1⟩ := hrel
    have HB1 := hid hb1
    have HF1 := hid hf1
    have Hz1 := hid hz1
    clear hb1 hf1 hz1
    have T1 := HT.out.below HB1.out
    by_cases hlt : i < T.p
    · obtain ⟨ad, hA, hl, q0, q1, q2⟩ := T1.at_ i hlt
      subst hA
      have dlt : decide ((i : Int) < (T.p : Int)) = true := decide_eq_true (by omega)
      obtain ⟨x0, x1, x2, x3, x4, x5, x6⟩ := R1.cells
      obtain ⟨gt, hgt⟩ : ∃ gt, wr.heap.size = gt := ⟨_, rfl⟩
      have hba := alo (W := wr) (o := .cells #[.int .i64 (T.tm i), .string (T.tl i), .bool (T.tp i)] 75)
      have D := Rtb.mk (R1.below hba) (Bk.of_alloc wr (.cells #[.int .i64 (T.tm i), .string (T.tl i), .bool (T.tp i)] 75) hgt)
      have HB2 := hid (HB1.out.trans (hba.mono HB1.out.size))
      have HF2 := hid (HF1.out.trans (Fr3.of_below hba) Hz1.out)
      have Hz2 := hid (Nat.le_trans Hz1.out hba.size)
      clear hba R1
      obtain ⟨b0, b1, b2⟩ := D.t.c3
      obtain ⟨y0, y1, y2, y3, y4, y5, y6⟩ := D.r.cells
      subst hgt
      by_cases hm : T.tm i = t
      · have dm : (T.tm i == t) = true := by rw [beq_iff_eq]; exact hm
        have HY := hid (show tuY N T t Y (i + 1) = updB (tuY N T t Y i) (ixL N (T.tl i)) (T.tp i) from if_pos hm)
        clear hm
        go_wp2_with fail
        have DQ := hid (fun k => D.below ((Below.refl _ _).drewN' k))
        have HBQ := hid (fun k => HB2.out.drewN' k)
        have HFQ := hid (fun k => (HF2.out.trans (Fr3.of_below ((Below.refl _ _).drewN' k)) Hz2.out))
        have HZQ := hid (fun k => Nat.le_trans Hz2.out ((Below.refl (wr.alloc (.cells #[.int .i64 (T.tm i), .string (T.tl i), .bool (T.tp i)] 75)).heap.size (wr.alloc (.cells #[.int .i64 (T.tm i), .string (T.tl i), .bool (T.tp i)] 75))).drewN' k).size)
        clear HB2 HF2 Hz2 D
        go_quiet (fail)
        clear b0 b1 b2 y0 y1 y2 y3 y4 y5 y6 q0 q1 q2 x0 x1 x2 x3 x4 x5 x6 T1
        generalize hwq : (wr.alloc (.cells #[.int .i64 (T.tm i), .string (T.tl i), .bool (T.tp i)] 75)).drewN _ = wq at *
        have D1 : Rtb wq g W0.heap.size N t A c M d X (tuY N T t Y i) (some ad) T u wr.heap.size i := by rw [← hwq]; exact DQ.out _
        have HB3 := hid (show Below W0.heap.size W0 wq from by rw [← hwq]; exact HBQ.out _)
        have HF3 := hid (show Fr3 g A M w wq from by rw [← hwq]; exact HFQ.out _)
        have HZ3 := hid (show w.heap.size ≤ wq.heap.size from by rw [← hwq]; exact HZQ.out _)
        clear DQ HBQ HFQ HZQ hwq
        have hix := (HG.out i hlt).2.2
        obtain ⟨j, hj, hjj⟩ : ∃ j : Nat, j < N.k ∧ ixL N (T.tl i) = j := by
          rcases ixL_is N (T.tl i) with ⟨e, _⟩ | ⟨j, hj, _, _, e⟩
          · omega
          · exact ⟨j, hj, e⟩
        have HIX := hid (show Ixn N.k N.lnm (T.tl i) j from hjj ▸ ixL_is N (T.tl i))
        rw [hjj, updB_at] at HY
        clear hix hjj
        obtain ⟨gm, hM, -, -, -, -⟩ := D1.r.aty hj
        subst hM
        have hjI : (j : Int) < (N.k : Int) := by omega
        have HR3 := hid (D1.below dr0)
        go_wp2_with fail
        go_region_held3 (fun w' => w'.cell? ⟨g, 0, none⟩ = some (.slice N.A N.n N.c) ∧ w'.cell? ⟨g, 1, none⟩ = some (.slice N.M N.m N.d) ∧ w'.cell? ⟨g, 2, none⟩ = some (.slice N.K N.k N.e) ∧ w'.cell? ⟨g, 3, none⟩ = some (.int .i64 t) ∧ w'.cell? ⟨g, 4, none⟩ = some (.slice A N.n c) ∧ w'.cell? ⟨g, 5, none⟩ = some (.slice (some ⟨gm, 0, none⟩) N.k d) ∧ w'.cell? ⟨g, 6, none⟩ = some (.slice (some ad) T.p u) ∧ w'.cell? ⟨wr.heap.size, 0, none⟩ = some (.int .i64 (T.tm i)) ∧ w'.cell? ⟨wr.heap.size, 1, none⟩ = some (.string (T.tl i)) ∧ w'.cell? ⟨wr.heap.size, 2, none⟩ = some (.bool (T.tp i))) (first | with_reducible exact Rtb.cells HR3.out | with_reducible exact Rtb.cells D4 | with_reducible exact Rtb.cells D5) (first
          | (go_at_call 62; (with_reducible refine (findLink_is HIX (HN.out.below HB3.out.drew) Hs.out).mono ?_); rintro e w4 ⟨rfl, hb4⟩; have D4 := HR3.out.below hb4; obtain ⟨gm', e, q0, q1, q2, q3⟩ := D4.r.aty hj; injection e with e; injection e with e; subst e; have D5 := D4.put hj (T.tp i)))
        have HB5 := hid ((HB3.out.drew.trans (hb4.mono HB3.out.size)).setCell (p := ⟨gm, j, none⟩) q2 (.bool (T.tp i)))
        have HF5 := hid (((HF3.out.trans (Fr3.of_below dr0) HZ3.out).trans (Fr3.of_below hb4) HZ3.out).trans (Fr3.rowy rfl j (.bool (T.tp i))) (Nat.le_trans HZ3.out hb4.size))
        have HZ5 := hid (show w.heap.size ≤ (w4.setCell ⟨gm, j, none⟩ (.bool (T.tp i))).heap.size from by simpa [World.setCell] using Nat.le_trans HZ3.out hb4.size)
        clear hb4 q0 q1 q2 q3 D4
        go_wp2
        go_roundw
        case rel => exact ⟨i + 1, by omega, by go_num, by rw [HY.out]; exact D5.r, HB5.out, HF5.out, HZ5.out⟩
        case measure => simp [intOf]; omega
      · have dm : (T.tm i == t) = false := by rw [beq_eq_false_iff_ne]; exact hm
        have HY := hid (show tuY N T t Y (i + 1) = tuY N T t Y i from if_neg hm)
        clear hm
        go_wp2_with fail
        have DQ := hid (fun k => D.r.below ((Below.refl _ _).drewN' k))
        have HBQ := hid (fun k => HB2.out.drewN' k)
        have HFQ := hid (fun k => (HF2.out.trans (Fr3.of_below ((Below.refl _ _).drewN' k)) Hz2.out))
        have HZQ := hid (fun k => Nat.le_trans Hz2.out ((Below.refl (wr.alloc (.cells #[.int .i64 (T.tm i), .string (T.tl i), .bool (T.tp i)] 75)).heap.size (wr.alloc (.cells #[.int .i64 (T.tm i), .string (T.tl i), .bool (T.tp i)] 75))).drewN' k).size)
        clear HB2 HF2 Hz2 D
        go_quiet (fail)
        go_wp2
        go_roundw
        case rel => exact ⟨i + 1, by omega, by go_num, by rw [HY.out]; exact DQ.out _, HBQ.out _, HFQ.out _, HZQ.out _⟩
        case measure => simp [intOf]; omega
    · have dlt : decide ((i : Int) < (T.p : Int)) = false := decide_eq_false (by omega)
      obtain rfl : i = T.p := by omega
      rename World => wv
      obtain ⟨Y', hY'⟩ : ∃ Y', tuY N T t Y T.p = Y' := ⟨_, rfl⟩
      rw [hY'] at R1
      have HY' := hid hY'
      obtain ⟨x0, x1, x2, x3, x4, x5, x6⟩ := R1.cells
      have hmk := run_make_ints N.k (by have := Hs.out.k; omega)
      have hkk := Hs.out.k
      have hba := alo (W := wv) (o := .cells (Array.replicate N.k (Value.int .i64 0)) 3)
      have R2 := R1.below hba
      have HB2 := hid (HB1.out.trans (hba.mono HB1.out.size))
      have HF2 := hid (HF1.out.trans (Fr3.of_below hba) Hz1.out)
      obtain ⟨gf, hgf⟩ : ∃ gf, wv.heap.size = gf := ⟨_, rfl⟩
      have hFB : Bk _ gf (.cells (Array.replicate N.k (Value.int .i64 0)) 3 (0, 0)) := Bk.of_alloc wv _ hgf
      obtain ⟨y0, y1, y2, y3, y4, y5, y6⟩ := R2.cells
      clear hY' T1 hlt hi hba
      subst hgf
      obtain ⟨K', hK⟩ : ∃ K', N.K = K' := ⟨_, rfl⟩
      rw [hK] at y2
      have HK := hid hK
      have HFt := hid (show Fit N (Wp N t X Y') from HF.out.any HF.out.t0 HF.out.t1)
      have HF3 := hid (show Own w.heap.size (wv.alloc (.cells (Array.replicate N.k (Value.int .i64 0)) 3)) wv.heap.size N.k (fzX N t Y' X 0) from Own.new Hz1.out hFB)
      have HG0 := hid (show w.heap.size ≤ wv.heap.size ∧ w.heap.size ≤ (wv.alloc (.cells (Array.replicate N.k (Value.int .i64 0)) 3)).heap.size ∧ W0.heap.size ≤ wv.heap.size from ⟨Hz1.out, by have := Hz1.out; simp; omega, HB1.out.size⟩)
      have HO := hid (hR.olds)
      clear hK hFB HG hR
      go_wp2_with fail
      generalize wv.alloc (.cells (Array.replicate N.k (Value.int .i64 0)) 3) = wq at *
      clear y0 y1 y2 y3 y4 y5 y6 x0 x1 x2 x3 x4 x5 x6 R1 HB1 HF1 Hz1
      go_loopw [54] (fun iv wx => ∃ i : Nat, i ≤ N.k ∧ iv = .int .i64 i ∧ Rw wx g W0.heap.size N t A c M d (stX N t Y' X i) Y' P T.p u ∧ Own w.heap.size wx wv.heap.size N.k (fzX N t Y' X i) ∧ Below W0.heap.size W0 wx ∧ Fr3 g A M w wx ∧ w.heap.size ≤ wx.heap.size) (fun iv _ => N.k - (intOf iv).toNat)
      case atStart => exact ⟨0, Nat.zero_le _, rfl, R2, HF3.out, HB2.out, HF2.out, HG0.out.2.1⟩
      case round =>
        obtain ⟨i, hi, rfl, Ri, hOw, hbi, hfi, hzi⟩ := hrel
        have HBi := hid hbi
        have HFi := hid hfi
        have HZi := hid hzi
        clear hbi hfi hzi R2 HF3 HB2 HF2
        by_cases hlt : i < N.k
        · obtain ⟨al, hal, hlal, p0, p1, p2, p3, p4, p5, p6, p7⟩ := (HN.out.below HBi.out).l.at_ i hlt
          obtain rfl : K' = some al := HK.out.symm.trans hal
          have dlt : decide ((i : Int) < (N.k : Int)) = true := decide_eq_true (by omega)
          have hiI : (i : Int) < (N.k : Int) := by omega
          obtain ⟨gb, hgb⟩ : ∃ gb, wr.heap.size = gb := ⟨_, rfl⟩
          have hba := alo (W := wr) (o := .cells #[.string (N.l i).nm, .int .i64 (N.l i).kind, .string (N.l i).fr, .string (N.l i).tw, .int .i64 (N.l i).sill, .int .i64 (N.l i).rate, .int .i64 (N.l i).fac, .int .i64 (N.l i).lift] 49)
          have D := Rlb.mk (Ri.below hba) (Bk.of_alloc wr (.cells #[.string (N.l i).nm, .int .i64 (N.l i).kind, .string (N.l i).fr, .string (N.l i).tw, .int .i64 (N.l i).sill, .int .i64 (N.l i).rate, .int .i64 (N.l i).fac, .int .i64 (N.l i).lift] 49) hgb) (own_below hOw hba)
          have HBD := hid (HBi.out.trans (hba.mono HBi.out.size))
          have HFD := hid (HFi.out.trans (Fr3.of_below hba) HZi.out)
          have HZD := hid (Nat.le_trans HZi.out hba.size)
          have HGb := hid (show w.heap.size ≤ gb from by rw [← hgb]; exact HZi.out)
          have HGf := hid (show wv.heap.size < gb from by rw [← hgb]; exact Own.lt hOw)
          have HFs := hid (stX_ok HFt.out HN.out i hi)
          have HFw := hid (fwX_ok HFt.out HN.out hlt)
          clear hba Ri hOw hal HBi HFi HZi
          go_wp2_with fail
          generalize wr.alloc (.cells #[.string (N.l i).nm, .int .i64 (N.l i).kind, .string (N.l i).fr, .string (N.l i).tw, .int .i64 (N.l i).sill, .int .i64 (N.l i).rate, .int .i64 (N.l i).fac, .int .i64 (N.l i).lift] 49) = wd at *
          clear hgb p0 p1 p2 p3 p4 p5 p6 p7
          have D0 := D.below dr0
          obtain ⟨r, hr⟩ : ∃ r, fwX N t Y' X i = r := ⟨_, rfl⟩
          have Hr := hid hr
          have HFL := hid (fun (V : World) (B0 : Nat) (h : Nt V B0 N) (B : Nat) (k : Rw V g B N t A c M d (stX N t Y' X i) Y' P T.p u) => (show Calls Try.prog 63 #[.agg #[.slice N.A N.n N.c, .slice N.M N.m N.d, .slice N.K N.k N.e], .agg #[.int .i64 t, .slice A N.n c, .slice M N.k d], .int .i64 i] V fun e w' => e = .returned (.int .i64 r) ∧ Below V.heap.size V w' from by
            rw [← hr]
            exact flow_is (W := Wr N t A c M d (stX N t Y' X i) Y') rfl (hid ⟨HFs.out.c, HFs.out.t0, HFs.out.t1, rfl, rfl, HFs.out.l⟩) Hs h k.wt hlt))
          clear hr
          go_region_held3 (fun w' => w'.cell? ⟨g, 0, none⟩ = some (.slice N.A N.n N.c) ∧ w'.cell? ⟨g, 1, none⟩ = some (.slice N.M N.m N.d) ∧ w'.cell? ⟨g, 2, none⟩ = some (.slice N.K N.k N.e) ∧ w'.cell? ⟨g, 3, none⟩ = some (.int .i64 t) ∧ w'.cell? ⟨g, 4, none⟩ = some (.slice A N.n c) ∧ w'.cell? ⟨g, 5, none⟩ = some (.slice M N.k d) ∧ w'.cell? ⟨gb, 2, none⟩ = some (.string (N.l i).fr) ∧ w'.cell? ⟨gb, 3, none⟩ = some (.string (N.l i).tw)) (first | with_reducible exact Rlb.cells D0 | with_reducible exact Rlb.cells D1 | with_reducible exact Rlb.cells D2) (first
            | (go_at_call 63; (with_reducible refine (HFL.out _ _ (HN.out.below HBD.out.drew) _ D0.r).mono ?_); rintro e w4 ⟨rfl, hb4⟩; have D1 := D0.below hb4; obtain ⟨q0, q1⟩ := D1.at_ hlt; have D2 := D1.put hlt HO.out HGb.out HGf.out ⟨HG0.out.1, trivial⟩ r))
          have HBa := hid ((HBD.out.drew.trans (hb4.mono HBD.out.size)).setCell (p := ⟨wv.heap.size, i, none⟩) HG0.out.2.2 (.int .i64 r))
          have HFa := hid (((HFD.out.trans (Fr3.of_below dr0) HZD.out).trans (Fr3.of_below hb4) HZD.out).off HG0.out.1 i (.int .i64 r))
          have HZa := hid (show w.heap.size ≤ (w4.setCell ⟨wv.heap.size, i, none⟩ (.int .i64 r)).heap.size from by simpa [World.setCell] using Nat.le_trans HZD.out hb4.size)
          clear hb4 q0 q1 D1 D0 HBD HFD HZD D HFL
          generalize w4.setCell ⟨wv.heap.size, i, none⟩ (.int .i64 r) = wa at *
          have Hrr := hid (show -1000000000 ≤ r ∧ r ≤ 1000000000 from by rw [← Hr.out]; exact HFw.out.2)
          have hv1 := hid (show ∀ j : Nat, j < N.n → (j : Int) = ixB N (N.l i).fr → 0 ≤ stX N t Y' X i j ∧ stX N t Y' X i j ≤ 40000000000000 from fun j hj _ => HFs.out.lit hj)
          have hv2 := hid (show ∀ j : Nat, j < N.n → (j : Int) = ixB N (N.l i).tw → 0 ≤ give (stX N t Y' X i) (ixB N (N.l i).fr) (-r) j ∧ give (stX N t Y' X i) (ixB N (N.l i).fr) (-r) j ≤ 40000000000000 from fun j hj e => by
            have hne := ixB_ne HFt.out.c hlt
            unfold give
            rw [if_neg (fun e2 => hne (e2.symm.trans e))]
            exact HFs.out.lit hj)
          have HE0 := hid (D2.below dr0)
          have hw : IntKind.i64.wrap (-r) = -r := IntWalk.i64_in _ (by have := Hrr.out; omega)
          go_wp2_with fail
          go_region_held3 (fun w' => w'.cell? ⟨gb, 2, none⟩ = some (.string (N.l i).fr) ∧ w'.cell? ⟨gb, 3, none⟩ = some (.string (N.l i).tw) ∧ w'.cell? ⟨wv.heap.size, i, none⟩ = some (.int .i64 r)) (first | with_reducible exact Rlb.cells9 HE0.out hlt | with_reducible exact Rlb.cells9 E1 hlt) (first
            | (go_at_call 64; (with_reducible refine (add_any HE0.out.r HN (hid HBa.out.drew) Hs (N.l i).fr (-r) hv1.out (by have := Hrr.out; omega) (by have := Hrr.out; omega)).mono ?_); rintro e w5 ⟨rfl, Ra, hb5, hf5, hz5⟩; have E1 := HE0.out.moved Ra hf5 HO.out HGb.out HG0.out.1))
          have HBb := hid hb5
          have HFb := hid ((HFa.out.trans (Fr3.of_below dr0) HZa.out).trans hf5 HZa.out)
          have HZb := hid (show w.heap.size ≤ w5.heap.size from Nat.le_trans HZa.out hz5)
          have HE1 := hid (E1.below dr0)
          clear hb5 hf5 hz5 Ra HE0 D2 HBa HFa HZa E1
          go_wp2_with fail
          go_region_held3 (fun w' => w'.cell? ⟨gb, 2, none⟩ = some (.string (N.l i).fr) ∧ w'.cell? ⟨gb, 3, none⟩ = some (.string (N.l i).tw) ∧ w'.cell? ⟨wv.heap.size, i, none⟩ = some (.int .i64 r)) (first | with_reducible exact Rlb.cells9 HE1.out hlt | with_reducible exact Rlb.cells9 E2 hlt) (first
            | (go_at_call 64; (with_reducible refine (add_any HE1.out.r HN (hid HBb.out.drew) Hs (N.l i).tw r hv2.out (by have := Hrr.out; omega) (by have := Hrr.out; omega)).mono ?_); rintro e w6 ⟨rfl, Rb2, hb6, hf6, hz6⟩; have E2 := HE1.out.moved Rb2 hf6 HO.out HGb.out HG0.out.1))
          have HFc := hid ((HFb.out.trans (Fr3.of_below dr0) HZb.out).trans hf6 HZb.out)
          have HZc := hid (show w.heap.size ≤ w6.heap.size from Nat.le_trans HZb.out hz6)
          have HBc := hid hb6
          have hX : stX N t Y' X (i + 1) = give (give (stX N t Y' X i) (ixB N (N.l i).fr) (-r)) (ixB N (N.l i).tw) r := by
            rw [stX_succ, Hr.out]
            unfold mvX
            rw [take_give]
          have Rn := hid Rb2
          rw [← hX] at Rn
          have On := hid E2.f
          rw [← Hr.out, ← fzX_succ] at On
          clear hb6 hf6 hz6 Rb2 HE1 HBb HFb HZb E2 hX
          go_wp2
          go_roundw
          case rel => exact ⟨i + 1, by omega, by go_num, Rn.out, On.out, HBc.out, HFc.out, HZc.out⟩
          case measure => simp [intOf]; omega
        · have dlt : decide ((i : Int) < (N.k : Int)) = false := decide_eq_false (by omega)
          obtain rfl : i = N.k := by omega
          obtain ⟨y0, y1, y2, y3, y4, y5, y6⟩ := Ri.cells
          have f3 := Bk.fz Ri.b 3
          have hw : IntKind.i64.wrap (t + 1) = t + 1 := IntWalk.i64_in _ (by have := HF.out.t0; have := HF.out.t1; have h0 : 0 ≤ t := HF.out.t0; have h1 : t ≤ 1000000 := HF.out.t1; omega)
          have Rm := Ri.putMin (t + 1)
          have HBm := hid (HBi.out.setCell (p := ⟨g, 3, none⟩) Ri.g (.int .i64 (t + 1)))
          have HFm := hid (HFi.out.trans (Fr3.box 3 (.int .i64 (t + 1))) HZi.out)
          have Om : Own w.heap.size (wr.setCell ⟨g, 3, none⟩ (.int .i64 (t + 1))) wv.heap.size N.k (fzX N t Y' X N.k) := own_heap hOw fun k hk => by
            have e : wv.heap.size = k := by simpa [Value.ownBlock] using hk
            have := HO.out.1
            have := HG0.out.1
            exact Below.heap_setCell _ _ _ _ (show k ≠ g by omega)
          unfold Own at Om
          rw [ints_cgr (fun j hj => show fzX N t Y' X N.k j = fwX N t Y' X j from if_pos hj)] at Om
          go_wp2
          go_ret
          rw [HY'.out]
          exact ⟨_, rfl, Om, Rm, HBm.out, HFm.out, by simpa [World.setCell] using HZi.out⟩

end Go.Proofs.Ytockfiobhmohnaa

