/- Networks: Levels of the program. For all networks and states whose lists are not endless. -/
import Derived.Test.YtndcopljjnbkbaaNt7
import Derived.Deep.AppendLies
import Derived.Deep.RegionLaw
namespace Go.Proofs.Ytndcopljjnbkbaa
open Go.RowKit Go.Maps Kb Wb

theorem info_int : (Try.prog.info? 3).map (fun i => (i.zero, i.size, i.bytes)) = some (some (.int .i64 0), 1, 8) := by kernel_rfl
/-- Numbers as cells. -/
def ints (X : Nat → Int) (n : Nat) : List Value := (List.range n).map fun i => .int .i64 (X i)
theorem ints_snoc (X : Nat → Int) (n : Nat) : ints X n ++ [.int .i64 (X n)] = ints X (n + 1) := by
  unfold ints
  rw [List.range_succ, List.map_append]
  rfl
theorem ints_len (X : Nat → Int) (n : Nat) : (ints X n).length = n := by simp [ints]
theorem ints_get (X : Nat → Int) {n i : Nat} (h : i < n) : (ints X n)[i]? = some (.int .i64 (X i)) := by simp [ints, h]
theorem cell_one_new (w : World) (v : Value) (T : TypeId) : ∀ j u, [v][j]? = some u → (w.alloc (.cells #[v] T)).cell? ((⟨w.heap.size, 0, none⟩ : Addr).add j) = some u := fun j u hu => by
  have hh := fun i => cell_of_row _ _ i _ _ _ (Bk.of_alloc w (.cells #[v] T) rfl)
  match j, hu with
  | 0, hu => exact (hh 0).trans (by simpa using hu)
theorem own_below {w w' : World} {base : Nat} {e : TypeId} {size : Nat} {v : Value} {n : Nat} {xs : List Value} (h : w.ownsRow base e size v n xs) (hb : Below w.heap.size w w') : w'.ownsRow base e size v n xs :=
  h.kept (gb_of_below (r := none) hb) (by cases hv : v.ownBlock <;> simp)
theorem own_base {w : World} {base base' : Nat} {e : TypeId} {size : Nat} {v : Value} {n : Nat} {xs : List Value} (h : w.ownsRow base e size v n xs) (hb : base' ≤ base) : w.ownsRow base' e size v n xs :=
  ⟨h.1, h.2.imp id fun ⟨g, cap, cur, h1, h2, h3⟩ => ⟨g, cap, cur, h1, Nat.le_trans hb h2, h3⟩⟩
/-- The level of v litres in a basin. -/
noncomputable def lvB (b : Bd) (v : Int) : Int := @dite _ (∃ l, Lev b.F b.S b.n b.rim v l) (Classical.propDecidable _) (fun h => Classical.choose h) (fun _ => 0)
theorem lvB_lev {b : Bd} {v : Int} (B : Bas b.F b.S b.n b.rim) (h0 : 0 ≤ v) (h1 : v ≤ capB b) : Lev b.F b.S b.n b.rim v (lvB b v) := by
  have h : ∃ l, Lev b.F b.S b.n b.rim v l := Lev.exists B h0 h1
  unfold lvB
  rw [@dif_pos _ (Classical.propDecidable _) h]
  exact Classical.choose_spec h
theorem We.zero {N : Nd} {W : Wd} (h : We N W 0) : Cn N 0 ∧ (0 ≤ W.min ∧ W.min ≤ 1000000) ∧ (W.n = N.n ∧ W.m = N.k) ∧ ∀ i, i < N.n → LitOk N W i := by
  obtain ⟨q, hq, h⟩ := h
  rcases h with ⟨h0, h1⟩ | ⟨h0, ⟨_, h1⟩ | ⟨h1, ⟨_, h2⟩ | ⟨h2, ⟨_, h3⟩ | ⟨h3, _⟩⟩⟩⟩
  · exact absurd h1.symm h0
  · cases h1
  · cases h2
  · cases h3
  · subst h0; exact ⟨hq, h1, h2, h3⟩
theorem waterError_is {w : World} {B0 B1 : Nat} {N : Nd} {W : Wd} {q : Int} (hq : Hid (We N W q)) (h : Nt w B0 N) (hs : Nsm N) (hw : Wt w B1 W) :
    Calls Try.prog 54 #[.agg #[.slice N.A N.n N.c, .slice N.M N.m N.d, .slice N.K N.k N.e], .agg #[.int .i64 W.min, .slice W.A W.n W.c, .slice W.M W.m W.d]] w fun e w' => e = .returned (.int .i64 q) ∧ Below w.heap.size w w' :=
  (waterError_any h hs hw).mono fun _ _ ⟨r, he, hr, hb⟩ => ⟨by rw [he, hr.out.same hq.out], hb⟩

section
variable {w : World} {B0 B1 : Nat} {N : Nd} {W : Wd}
set_option maxRecDepth 100000 in
set_option maxHeartbeats 8000000 in
theorem Levels_err {q : Int} (hq : Hid (We N W q)) (h0 : q ≠ 0) (h : Nt w B0 N) (hs : Nsm N) (hw : Wt w B1 W) :
    Calls Try.prog 15 #[.agg #[.slice N.A N.n N.c, .slice N.M N.m N.d, .slice N.K N.k N.e], .agg #[.int .i64 W.min, .slice W.A W.n W.c, .slice W.M W.m W.d]] w fun e w' => e = .returned (.tuple #[.slice none 0 0, .int .i64 q]) ∧ Below w.heap.size w w' := by
  obtain ⟨g, hg⟩ : ∃ g, w.heap.size = g := ⟨_, rfl⟩
  have hb0 := ((Below.refl w.heap.size w).alloc (Nat.le_refl _) (.cells #[.slice N.A N.n N.c, .slice N.M N.m N.d, .slice N.K N.k N.e] 26)).alloc (by simp) (.cells #[.int .i64 W.min, .slice W.A W.n W.c, .slice W.M W.m W.d] 33)
  have K1 := (Nb.new h hg).below (alo (o := .cells #[.int .i64 W.min, .slice W.A W.n W.c, .slice W.M W.m W.d] 33))
  have V1 : Wx _ (g + 1) B1 W := ⟨Bk.of_alloc (w.alloc (.cells #[.slice N.A N.n N.c, .slice N.M N.m N.d, .slice N.K N.k N.e] 26)) (.cells #[.int .i64 W.min, .slice W.A W.n W.c, .slice W.M W.m W.d] 33) (by simp [hg]), hw.below (hb0.mono (Nat.le_refl _))⟩
  have hq1 : (q != 0) = true := by rw [bne_iff_ne]; exact h0
  go_enter Try.func15, Try.ntmps15
  go_wp2_with fail
  generalize (w.alloc (.cells #[.slice N.A N.n N.c, .slice N.M N.m N.d, .slice N.K N.k N.e] 26)).alloc (.cells #[.int .i64 W.min, .slice W.A W.n W.c, .slice W.M W.m W.d] 33) = W0 at *
  have HB0 := hid hb0
  have Hh := hid h
  have Hg := hid hg
  have Hw := hid hw
  clear hb0 h hg hw h0
  refine (waterError_is hq K1.a hs V1.a).mono ?_
  rintro e w2 ⟨rfl, hb⟩
  have HB2 := hid (bthen HB0.out hb (Nat.le_refl _))
  clear hb K1 V1
  go_wp2
  go_ret2
  exact ⟨rfl, HB2.out⟩

set_option maxRecDepth 100000 in
set_option maxHeartbeats 8000000 in
theorem Levels_ok (hq : Hid (We N W 0)) (h : Nt w B0 N) (hs : Nsm N) (hw : Wt w B1 W) :
    Calls Try.prog 15 #[.agg #[.slice N.A N.n N.c, .slice N.M N.m N.d, .slice N.K N.k N.e], .agg #[.int .i64 W.min, .slice W.A W.n W.c, .slice W.M W.m W.d]] w fun e w' => ∃ v : Value, e = .returned (.tuple #[v, .int .i64 0]) ∧ Hid (w'.ownsRow w.heap.size 3 1 v N.n (ints (fun i => lvB (N.b i) (W.X i)) N.n)) ∧ Below w.heap.size w w' := by
  obtain ⟨hcn, hmin, hln, hlit⟩ := hq.out.zero
  have hfew := hcn.few
  have HCN := hid hcn
  have HLN := hid hln
  have HLIT := hid hlit
  have hn9 : W.n ≤ 9223372036854775807 := by omega
  clear hmin hln hlit hcn
  obtain ⟨i0, hi0, hz0, hz1, hz2⟩ := info_parts info_int
  obtain ⟨g, hg⟩ : ∃ g, w.heap.size = g := ⟨_, rfl⟩
  have hb0 := ((Below.refl w.heap.size w).alloc (Nat.le_refl _) (.cells #[.slice N.A N.n N.c, .slice N.M N.m N.d, .slice N.K N.k N.e] 26)).alloc (by simp) (.cells #[.int .i64 W.min, .slice W.A W.n W.c, .slice W.M W.m W.d] 33)
  have K1 := (Nb.new h hg).below (alo (o := .cells #[.int .i64 W.min, .slice W.A W.n W.c, .slice W.M W.m W.d] 33))
  have V1 : Wx _ (g + 1) B1 W := ⟨Bk.of_alloc (w.alloc (.cells #[.slice N.A N.n N.c, .slice N.M N.m N.d, .slice N.K N.k N.e] 26)) (.cells #[.int .i64 W.min, .slice W.A W.n W.c, .slice W.M W.m W.d] 33) (by simp [hg]), hw.below (hb0.mono (Nat.le_refl _))⟩
  go_enter Try.func15, Try.ntmps15
  go_wp2_with fail
  generalize (w.alloc (.cells #[.slice N.A N.n N.c, .slice N.M N.m N.d, .slice N.K N.k N.e] 26)).alloc (.cells #[.int .i64 W.min, .slice W.A W.n W.c, .slice W.M W.m W.d] 33) = W0 at *
  have HB0 := hid hb0
  have Hh := hid h
  have Hg := hid hg
  have Hw := hid hw
  clear hb0 h hg hw
  refine (waterError_is hq K1.a hs V1.a).mono ?_
  rintro e w2 ⟨rfl, hb⟩
  have K2 := K1.below hb
  have V2 := V1.below hb
  have HB2 := hid (bthen HB0.out hb (Nat.le_refl _))
  clear hb K1 V1
  obtain ⟨x0, x1, x2⟩ := K2.cells
  obtain ⟨y0, y1, y2⟩ := V2.cells
  go_wp2_with fail
  clear x0 x1 x2 y0 y1 y2
  have hown0 := hid (World.ownsRow_nil w2 w2.heap.size 3 1)
  go_loopw [7, 19] (fun sv iv wr => ∃ (i : Nat), i ≤ N.n ∧ iv = .int .i64 i ∧ Hid (wr.ownsRow w2.heap.size 3 1 sv i (ints (fun i => lvB (N.b i) (W.X i)) i)) ∧ Below w2.heap.size w2 wr) (fun _ iv _ => N.n - (intOf iv).toNat)
  case atStart => exact ⟨0, Nat.zero_le _, rfl, hown0, Below.refl _ _⟩
  case round =>
    obtain ⟨i, hi, rfl, HO, hbel⟩ := hrel
    have K3 := K2.below hbel
    have V3 := V2.below hbel
    have Hbel := hid hbel
    clear hbel
    by_cases hlt : i < N.n
    · obtain ⟨ad, hA, hl, q0, q1, q2, hP, hP1, hP2⟩ := K3.a.b.at_ i hlt
      have B := HCN.out.bas hlt
      have ha := alo (W := wr) (o := (.cells #[.string (N.b i).nm, .slice (N.b i).A (N.b i).n (N.b i).c, .int .i64 (N.b i).rim] 42))
      obtain ⟨gb, hgb⟩ : ∃ gb, wr.heap.size = gb := ⟨_, rfl⟩
      have X4 := Bx.new (N.b i).nm (N.b i).c (N.b i).rim hP hgb
      have V4 := V3.below ha
      have Own1 := hid (HO.out.alloc (.cells #[.string (N.b i).nm, .slice (N.b i).A (N.b i).n (N.b i).c, .int .i64 (N.b i).rim] 42))
      have Hba := hid (Hbel.out.trans (ha.mono Hbel.out.size))
      have iW : i < W.n := by have := HLN.out; omega
      obtain ⟨al, hAl, -, -⟩ := V3.a.x i iW
      have D0 : Wbi _ (g + 1) gb B1 B0 W (N.b i) al i := (Wbi.mk V4 X4 hAl iW).below dr0
      have dlt : decide ((i : Int) < (N.n : Int)) = true := decide_eq_true (by omega)
      have Hcap := hid hP1
      have Hcm := hid hP2
      have Hlit := hid (HLIT.out i hlt)
      have Hlev := hid (lvB_lev B Hlit.out.1 Hlit.out.2)
      obtain ⟨lv, hlv⟩ : ∃ lv, lvB (N.b i) (W.X i) = lv := ⟨_, rfl⟩
      rw [hlv] at Hlev
      have Hlv := hid hlv
      clear ha hP hP1 hP2 X4 V4 V3 hAl hlv
      go_upto_region 8 with (fail)
      generalize wr.alloc (.cells #[.string (N.b i).nm, .slice (N.b i).A (N.b i).n (N.b i).c, .int .i64 (N.b i).rim] 42) = wa at *
      have Hgb := hid hgb
      have HA := hid hA
      clear hgb q0 q1 q2 hA dlt
      have hil : (i : Int) < (W.n : Int) := by omega
      obtain ⟨z0, z1, z2, z3, z4, z5, z6⟩ := D0.cells
      go_region_law (first
        | (refine step_append_lies _ (by rfl) _ _ _ (by rfl) w2.heap.size 3 i0 (.int .i64 0) 1 8 Try.underlying27 hi0 hz0 hz1 hz2 rfl (by decide) u7 i _ (by rfl) (Own4.out.alloc _) ⟨w4.heap.size, 0, none⟩ 1 1 [.int .i64 lv] (by rfl) rfl (cell_one_new _ _ _) (one_cell (.int .i64 lv) rfl) (by decide) (by unfold maxLen; omega) (by omega) (by have := HB4.out.size; simp; omega) _ rfl ?_; intro g1 cap1 w5 hown5 hgrow5 hat5 hlt5)
        | (go_simp; go_at_call 55; refine (levelOf_any (N.b i).nm D0.b.a B Hcap.out Hcm.out Hlit.out.1 Hlit.out.2 Hlev.out).mono ?_; rintro e w4 ⟨rfl, hb4⟩; have HB4 := hid (Hba.out.drew.trans (hb4.mono Hba.out.drew.size)); have Own4 := hid (own_below Own1.out.drew hb4)))
      all_goals
        have hb5 := (HB4.out.alloc HB4.out.size (.cells #[.int .i64 lv] 3)).grown hgrow5 (by have := HB4.out.size; simp; omega) (fun k hk => (Own4.out.lt k hk).1)
        rw [← Hlv.out, ints_snoc (fun i => lvB (N.b i) (W.X i)) i] at hown5
        have HO5 := hid hown5
        have HB5 := hid hb5
        clear hb5 hown5 hgrow5 hat5 hlt5 hb4 D0 z0 z1 z2 z3 z4 z5 z6
        go_wp2
        go_roundw
        case rel => exact ⟨i + 1, by omega, by go_num, HO5, HB5.out⟩
        case measure => simp [intOf]; omega
    · have e : i = N.n := by omega
      have dlt : decide ((i : Int) < (N.n : Int)) = false := decide_eq_false (by omega)
      subst e
      have HB := hid (bthen HB2.out Hbel.out (Nat.le_refl _))
      have HO2 := hid (own_base HO.out HB2.out.size)
      go_wp2
      go_ret2
      exact ⟨_, rfl, HO2, HB.out⟩
end

end Go.Proofs.Ytndcopljjnbkbaa
