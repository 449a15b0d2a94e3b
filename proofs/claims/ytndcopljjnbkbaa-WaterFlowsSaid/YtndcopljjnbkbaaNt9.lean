/- Networks: Fill of the program. For all networks whose lists are not endless, all minutes and levels. -/
import Derived.Test.YtndcopljjnbkbaaNt8
namespace Go.Proofs.Ytndcopljjnbkbaa
open Go.RowKit Go.Maps Kb Wb

/-- The slice at A reads as numbers, below block B0. -/
structure Ys (w : World) (B0 : Nat) (A : Option Addr) (n : Nat) (Z : Nat → Int) : Prop where
  at_ : ∀ i, i < n → ∃ ad, A = some ad ∧ ad.block < B0 ∧ w.cell? (ad.add i) = some (.int .i64 (Z i))
  le : B0 ≤ w.heap.size
theorem Ys.below {w w' : World} {B0 n : Nat} {A : Option Addr} {Z : Nat → Int} (h : Ys w B0 A n Z) (hb : Below w.heap.size w w') : Ys w' B0 A n Z :=
  ⟨fun i hi => by
    obtain ⟨ad, e, h1, h2⟩ := h.at_ i hi
    exact ⟨ad, e, h1, (hb.cell (p := ad.add i) (in_add (Nat.lt_of_lt_of_le h1 h.le))).trans h2⟩, Nat.le_trans h.le hb.size⟩
/-- A level of a basin. -/
def InL (b : Bd) (z : Int) : Prop := b.F 0 ≤ z ∧ z ≤ b.rim
/-- e is what Fill tells. -/
def Fo (N : Nd) (t : Int) (nl : Nat) (Z : Nat → Int) (e : Int) : Prop := ∃ q, Cn N q ∧ ((q ≠ 0 ∧ e = q) ∨ (q = 0 ∧ ((¬ (0 ≤ t ∧ t ≤ 1000000) ∧ e = 2) ∨ ((0 ≤ t ∧ t ≤ 1000000) ∧ ((nl ≠ N.n ∧ e = 11) ∨ (nl = N.n ∧ ((¬ (∀ i, i < N.n → InL (N.b i) (Z i)) ∧ e = 2) ∨ ((∀ i, i < N.n → InL (N.b i) (Z i)) ∧ e = 0))))))))
/-- The volume below a level in a basin. -/
def volB (b : Bd) (z : Int) : Int := wbelow b.F b.S b.n z
/-- What Fill returns. -/
def Fr (w0 w : World) (N : Nd) (t : Int) (Z : Nat → Int) (e : Int) (x : Value) : Prop :=
  (e ≠ 0 ∧ x = .agg #[.int .i64 0, .slice none 0 0, .slice none 0 0]) ∨ (e = 0 ∧ ∃ v gm, x = .agg #[.int .i64 t, v, .slice (some ⟨gm, 0, none⟩) N.k N.k] ∧ w.ownsRow w0.heap.size 3 1 v N.n (ints (fun i => volB (N.b i) (Z i)) N.n) ∧ ∃ T, Bk w gm (.cells (Array.replicate N.k (.bool false)) T (0, 0)))

/-- A basin in a box, and what stands at a level. -/
structure Ybi (w : World) (gb B0 B1 : Nat) (b : Bd) (A : Option Addr) (n : Nat) (Z : Nat → Int) (ad : Addr) (i : Nat) : Prop where
  y : Ys w B1 A n Z
  b : Bx w gb b.nm b.A b.n b.c b.rim B0 b.F b.S
  A : A = some ad
  i : i < n
section
variable {w w' : World} {gb B0 B1 : Nat} {b : Bd} {A : Option Addr} {n : Nat} {Z : Nat → Int} {ad : Addr} {i : Nat}
theorem Ybi.below (h : Ybi w gb B0 B1 b A n Z ad i) (hb : Below w.heap.size w w') : Ybi w' gb B0 B1 b A n Z ad i := ⟨h.y.below hb, h.b.below hb, h.A, h.i⟩
theorem Ybi.cells (h : Ybi w' gb B0 B1 b A n Z ad i) : w'.cell? ⟨gb, 0, none⟩ = some (.string b.nm) ∧ w'.cell? ⟨gb, 1, none⟩ = some (.slice b.A b.n b.c) ∧ w'.cell? ⟨gb, 2, none⟩ = some (.int .i64 b.rim) ∧ w'.cell? (ad.add i) = some (.int .i64 (Z i)) := by
  obtain ⟨b0, b1, b2⟩ := h.b.cells
  obtain ⟨ad', hA, _, q0⟩ := h.y.at_ i h.i
  rw [h.A] at hA
  injection hA with hA
  subst hA
  exact ⟨b0, b1, b2, q0⟩
end
theorem Bk.set {w : World} {g : Nat} {o : Obj} {p : Addr} (h : Bk w g o) (hp : g ≠ p.block) (x : Value) : Bk (w.setCell p x) g o := (Below.heap_setCell _ _ _ _ hp).trans h
theorem own_any {w : World} {base : Nat} {e : TypeId} {size : Nat} {v : Value} {n : Nat} {xs : List Value} (h : w.ownsRow base e size v n xs) : ∃ a c, v = .slice a n c := by
  rcases h.2 with ⟨hv, h0⟩ | ⟨g, cap, cur, h1, -⟩
  · subst h0; exact ⟨_, _, hv⟩
  · exact ⟨_, _, h1⟩
theorem Bk.fz {W : World} {g : Nat} {C : Array Value} {T : TypeId} (h : Bk W g (.cells C T (0, 0))) (i : Nat) : W.frozen? ⟨g, i, none⟩ = false := by
  unfold Bk at h
  simp [World.frozen?, h]
theorem Bk.put3 {w : World} {g : Nat} {a b c : Value} {T : TypeId} (h : Bk w g (.cells #[a, b, c] T (0, 0))) (x : Value) : Bk (w.setCell ⟨g, 1, none⟩ x) g (.cells #[a, x, c] T (0, 0)) := by
  unfold Bk at h ⊢
  simp only [World.setCell, Array.getElem?_modify, h]
  simp
theorem madeCells_bool (n : Nat) : madeCells #[Value.bool false] (n * 1) = (List.replicate n (Value.bool false)).toArray := by
  apply Array.ext
  · simp [madeCells]
  · intro i h1 h2
    simp [madeCells, Nat.mod_one]

theorem info_bool : (Try.prog.info? 4).map (fun i => (i.zero, i.size, i.bytes)) = some (some (.bool false), 1, 1) := by kernel_rfl
theorem run_make_bools (n : Nat) (hn : n ≤ 2000000000) (w : World) : (Instr.makeSlice 31 (.int .i64 (n : Int)) (.int .i64 (n : Int))).run Try.prog w = .ok (.slice (some ⟨w.heap.size, 0, none⟩) n n) (w.alloc (.cells (List.replicate n (Value.bool false)).toArray 4)) := by
  obtain ⟨i0, hi0, hz0, hz1, hz2⟩ := info_parts info_bool
  rw [run_make (P := Try.prog) w 31 4 i0 (.bool false) Try.underlying31 hi0 hz0 .i64 .i64 n n (Int.natCast_nonneg n) (Int.le_refl _) (by rw [hz2, ← Int.natCast_mul]; omega) (by omega)]
  rw [hz1, Int.toNat_natCast, show (Value.bool false).cells = #[Value.bool false] from rfl, madeCells_bool]
theorem Bk.put_all {w : World} {g : Nat} {a b c : Value} {T : TypeId} (h : Bk w g (.cells #[a, b, c] T (0, 0))) (x y z : Value) : Bk (((w.setCell ⟨g, 0, none⟩ x).setCell ⟨g, 1, none⟩ y).setCell ⟨g, 2, none⟩ z) g (.cells #[x, y, z] T (0, 0)) := by
  unfold Bk at h ⊢
  simp only [World.setCell, Array.getElem?_modify, h]
  simp

set_option maxRecDepth 100000 in
set_option maxHeartbeats 16000000 in
theorem Fill_any {w : World} {B0 B1 nl cl : Nat} {A : Option Addr} {Z : Nat → Int} {N : Nd} (t : Int) (h : Nt w B0 N) (hs : Nsm N) (hy : Ys w B1 A nl Z) (hl9 : nl ≤ 9223372036854775807) :
    Calls Try.prog 11 #[.agg #[.slice N.A N.n N.c, .slice N.M N.m N.d, .slice N.K N.k N.e], .int .i64 t, .slice A nl cl] w fun e w' => ∃ (x : Value) (r : Int), e = .returned (.tuple #[x, .int .i64 r]) ∧ Hid (Fo N t nl Z r) ∧ Hid (Fr w w' N t Z r x) ∧ Below w.heap.size w w' := by
  have hnn := hs.n
  have hkk := hs.k
  obtain ⟨g, hg⟩ : ∃ g, w.heap.size = g := ⟨_, rfl⟩
  have hb0 := ((Below.refl w.heap.size w).alloc (Nat.le_refl _) (.cells #[.slice N.A N.n N.c, .slice N.M N.m N.d, .slice N.K N.k N.e] 26)).alloc (by simp) (.cells #[.int .i64 0, .slice none 0 0, .slice none 0 0] 33)
  have K1 := (Nb.new h hg).below (alo (o := .cells #[.int .i64 0, .slice none 0 0, .slice none 0 0] 33))
  have Y1 := hy.below (hb0.mono (Nat.le_refl _))
  have R1 : Bk _ (g + 1) _ := Bk.of_alloc (w.alloc (.cells #[.slice N.A N.n N.c, .slice N.M N.m N.d, .slice N.K N.k N.e] 26)) (.cells #[.int .i64 0, .slice none 0 0, .slice none 0 0] 33) (by simp [hg])
  obtain ⟨i0, hi0, hz0, hz1, hz2⟩ := info_parts info_int
  have hmk := run_make_bools N.k (by omega)
  go_enter Try.func11, Try.ntmps11
  go_wp2_with fail
  generalize (w.alloc (.cells #[.slice N.A N.n N.c, .slice N.M N.m N.d, .slice N.K N.k N.e] 26)).alloc (.cells #[.int .i64 0, .slice none 0 0, .slice none 0 0] 33) = W0 at *
  have HB0 := hid hb0
  have Hh := hid h
  have Hg := hid hg
  have Hy := hid hy
  clear hb0 h hg hy
  refine (CheckNetwork_any K1.a hs).mono ?_
  rintro e w2 ⟨q, rfl, hq, hb⟩
  have K2 := K1.below hb
  have Y2 := Y1.below hb
  have R2 := R1.step hb
  have HB2 := hid (bthen HB0.out hb (Nat.le_refl _))
  clear hb K1 Y1 R1
  obtain ⟨x0, x1, x2⟩ := K2.cells
  obtain ⟨r0, r1, r2⟩ := R2.c3
  have f0 := R2.fz 0
  have f1 := R2.fz 1
  have f2 := R2.fz 2
  have hgl := R2.lt
  by_cases h0 : q = 0
  · subst h0
    have HQ : Hid (Cn N 0) := hq
    by_cases hm : inB t 0 1000000 = true
    · have hm' := inB_iff.1 hm
      by_cases hln : nl = N.n
      · subst hln
        have hfew := HQ.out.few
        obtain ⟨z, hz⟩ : ∃ z, w2.heap.size = z := ⟨_, rfl⟩
        have hgz : g + 1 < z := by have := R2.lt; omega
        have hb3 := ((Below.refl w2.heap.size w2).alloc (Nat.le_refl _) (.cells (Array.replicate N.k (.bool false)) 4)).alloc (by simp) (.cells #[.int .i64 t, .slice none 0 0, .slice (some ⟨z, 0, none⟩) N.k N.k] 33)
        have M3 := (Bk.of_alloc w2 (.cells (Array.replicate N.k (.bool false)) 4) hz).alloc (.cells #[.int .i64 t, .slice none 0 0, .slice (some ⟨z, 0, none⟩) N.k N.k] 33)
        have T3 : Bk _ (z + 1) _ := Bk.of_alloc (w2.alloc (.cells (Array.replicate N.k (.bool false)) 4)) (.cells #[.int .i64 t, .slice none 0 0, .slice (some ⟨z, 0, none⟩) N.k N.k] 33) (by simp [hz])
        go_upto_region 9 with (((with_reducible refine (isMinute_any _ _).mono ?_); rintro e w' ⟨rfl, rfl⟩))
        generalize (w2.alloc (.cells (Array.replicate N.k (.bool false)) 4)).alloc (.cells #[.int .i64 t, .slice none 0 0, .slice (some ⟨z, 0, none⟩) N.k N.k] 33) = W3 at *
        rw [hz] at hb3
        have HB3 := hid hb3
        have Hz := hid hz
        have K3 := K2.below (hb3.mono (by omega))
        clear hb3 hz hmk x0 x1 x2 r0 r1 r2 f0 f1 f2
        obtain ⟨x0, x1, x2⟩ := K3.cells
        go_wp2_with fail
        clear x0 x1 x2
        go_loopw [38] (fun iv wr => ∃ (i : Nat) (v : Value), i ≤ N.n ∧ iv = .int .i64 i ∧ Hid (∀ j, j < i → InL (N.b j) (Z j)) ∧ Bk wr z (.cells (Array.replicate N.k (.bool false)) 4 (0, 0)) ∧ Bk wr (z + 1) (.cells #[.int .i64 t, v, .slice (some ⟨z, 0, none⟩) N.k N.k] 33 (0, 0)) ∧ wr.ownsRow (z + 2) 3 1 v i (ints (fun i => volB (N.b i) (Z i)) i) ∧ Below z w2 wr) (fun iv _ => N.n - (intOf iv).toNat)
        case atStart => exact ⟨0, _, Nat.zero_le _, rfl, hid (fun j hj => absurd hj (Nat.not_lt_zero _)), M3, T3, World.ownsRow_nil _ _ _ _, HB3.out⟩
        case round =>
          obtain ⟨i, v, hi, rfl, HN, M4, T4, hown, hbel⟩ := hrel
          have K4 := K2.below (hbel.mono (by have := Hz.out; omega))
          have Y4 := Y2.below (hbel.mono (by have := Hz.out; omega))
          have Hbel := hid hbel
          have Own4 := hid hown
          have hzz := Hz.out
          have szr : z ≤ wr.heap.size := by have := hbel.size; omega
          have HBw := hid (HB2.out.trans (hbel.mono (by have := HB2.out.size; omega)))
          have R3 := Bk.below R2 hbel hgz
          clear hbel hown M3 T3
          by_cases hlt : i < N.n
          · obtain ⟨ad, hA, hl, q0, q1, q2, hP, hP1, hP2⟩ := K4.a.b.at_ i hlt
            have B := HQ.out.bas hlt
            have ha := alo (W := wr) (o := (.cells #[.string (N.b i).nm, .slice (N.b i).A (N.b i).n (N.b i).c, .int .i64 (N.b i).rim] 42))
            obtain ⟨gb, hgb⟩ : ∃ gb, wr.heap.size = gb := ⟨_, rfl⟩
            have X4 := Bx.new (N.b i).nm (N.b i).c (N.b i).rim hP hgb
            have Y5 := Y4.below ha
            have Own5 := hid (Own4.out.alloc (.cells #[.string (N.b i).nm, .slice (N.b i).A (N.b i).n (N.b i).c, .int .i64 (N.b i).rim] 42))
            have M5 := M4.alloc (.cells #[.string (N.b i).nm, .slice (N.b i).A (N.b i).n (N.b i).c, .int .i64 (N.b i).rim] 42)
            have T5 := T4.alloc (.cells #[.string (N.b i).nm, .slice (N.b i).A (N.b i).n (N.b i).c, .int .i64 (N.b i).rim] 42)
            have Hba := hid (Hbel.out.alloc szr (.cells #[.string (N.b i).nm, .slice (N.b i).A (N.b i).n (N.b i).c, .int .i64 (N.b i).rim] 42))
            have HBa := hid (HBw.out.alloc HBw.out.size (.cells #[.string (N.b i).nm, .slice (N.b i).A (N.b i).n (N.b i).c, .int .i64 (N.b i).rim] 42))
            have R5 := R3.alloc (.cells #[.string (N.b i).nm, .slice (N.b i).A (N.b i).n (N.b i).c, .int .i64 (N.b i).rim] 42)
            obtain ⟨al, hAl, -, -⟩ := Y4.at_ i hlt
            have D0 : Ybi _ gb B0 B1 (N.b i) A N.n Z al i := (Ybi.mk Y5 X4 hAl hlt).below dr0
            have dlt : decide ((i : Int) < (N.n : Int)) = true := decide_eq_true (by omega)
            have hpos := B.pos
            clear ha hP hP1 hP2 X4 Y4 Y5
            have hil : (i : Int) < (N.n : Int) := by omega
            subst hAl
            go_upto_region 12 with (fail)
            generalize wr.alloc (.cells #[.string (N.b i).nm, .slice (N.b i).A (N.b i).n (N.b i).c, .int .i64 (N.b i).rim] 42) = wa at *
            have Hgb := hid hgb
            have HA := hid hA
            clear hgb q0 q1 q2 hA dlt
            by_cases hin : inB (Z i) ((N.b i).F 0) (N.b i).rim = true
            · have hin' := inB_iff.1 hin
              go_region_held3 (fun w' => w'.cell? ⟨gb, 0, none⟩ = some (.string (N.b i).nm) ∧ w'.cell? ⟨gb, 1, none⟩ = some (.slice (N.b i).A (N.b i).n (N.b i).c) ∧ w'.cell? ⟨gb, 2, none⟩ = some (.int .i64 (N.b i).rim) ∧ w'.cell? (al.add i) = some (.int .i64 (Z i))) (first | with_reducible exact Ybi.cells D0 | with_reducible exact Ybi.cells D1) (first
                | (go_at_call 45; with_reducible refine (isLevelOf_any (N.b i).nm (Z i) D0.b.a hpos).mono ?_; rintro e w4 ⟨rfl, hb4⟩; have D1 := D0.below hb4))
              have T6 := Bk.step (W := wa.drew) T5 hb4
              have M6 := Bk.step (W := wa.drew) M5 hb4
              have Own6 := hid (own_below Own5.out.drew hb4)
              have HB6 := hid (Hba.out.drew.trans (hb4.mono (by have := T5.lt; show z ≤ wa.heap.size; omega)))
              clear hb4 D0 T5 M5
              obtain ⟨y0, y1, y2, y3⟩ := D1.cells
              obtain ⟨s0, s1, s2⟩ := T6.c3
              have hf0 := (B.f 0 hpos).1
              have hrm := B.rm
              obtain ⟨vl, hvl⟩ : ∃ vl, volB (N.b i) (Z i) = vl := ⟨_, rfl⟩
              have hvol : ∀ (W : World), Pa W B0 (N.b i).A (N.b i).n (N.b i).F (N.b i).S → Calls Try.prog 46 #[.agg #[.string (N.b i).nm, .slice (N.b i).A (N.b i).n (N.b i).c, .int .i64 (N.b i).rim], .int .i64 (Z i)] W fun e w' => e = .returned (.int .i64 vl) ∧ Below W.heap.size W w' := fun W hP => by
                rw [← hvl]
                exact volume_any (N.b i).nm hP B (by omega) (by omega)
              have Hvol := hid hvol
              have Hvl := hid hvl
              clear hvol hvl
              have D2 : Ybi w4.drew gb B0 B1 (N.b i) (some al) N.n Z al i := D1.below dr0
              go_wp2_with fail
              go_region_law (first
                | (refine step_append_lies _ (by rfl) _ _ _ (by rfl) (z + 2) 3 i0 (.int .i64 0) 1 8 Try.underlying27 hi0 hz0 hz1 hz2 rfl (by decide) v i _ (by rfl) (Own7.out.alloc _) ⟨w5.heap.size, 0, none⟩ 1 1 [.int .i64 vl] (by rfl) rfl (cell_one_new _ _ _) (one_cell (.int .i64 vl) rfl) (by decide) (by unfold maxLen; omega) (by omega) (by have := T7.lt; simp; omega) _ rfl ?_; intro g1 cap1 w6 hown6 hgrow6 hat6 hlt6; have e1 : Bk w6 (z + 1) _ := (hgrow6.block (z + 1) (T7.alloc (.cells #[.int .i64 vl] 3)).lt (fun e => by have := (Own7.out.lt _ e.symm).1; omega)).trans (T7.alloc (.cells #[.int .i64 vl] 3)); have e0 : Bk w6 z _ := (hgrow6.block z (M7.alloc (.cells #[.int .i64 vl] 3)).lt (fun e => by have := (Own7.out.lt _ e.symm).1; omega)).trans (M7.alloc (.cells #[.int .i64 vl] 3)); obtain ⟨u0, u1, u2⟩ := e1.c3; have fu := e1.fz 1)
                | (go_simp; go_at_call 46; refine (Hvol.out _ D2.b.a).mono ?_; rintro e w5 ⟨rfl, hb5⟩; have T7 := Bk.step (W := w4.drew) T6 hb5; have M7 := Bk.step (W := w4.drew) M6 hb5; have Own7 := hid (own_below Own6.out.drew hb5); have HB7 := hid (HB6.out.drew.trans (hb5.mono (by have := T6.lt; show z ≤ w4.heap.size; omega))); obtain ⟨k0, k1, k2⟩ := T7.c3; obtain ⟨k3, k4, k5⟩ := (T7.alloc (.cells #[.int .i64 vl] 3)).c3))
              all_goals
                have szz : z + 2 ≤ w5.heap.size := by have := T7.lt; omega
                have hbx := ((HB7.out.alloc (by omega) (.cells #[.int .i64 vl] 3)).grown hgrow6 (by simp; omega) (fun k hk => by have := (Own7.out.lt k hk).1; omega)).setCell (p := ⟨z + 1, 1, none⟩) (by show z ≤ z + 1; omega) (.slice (some ⟨g1, 0, none⟩) (i + 1) cap1)
                rw [← Hvl.out, ints_snoc (fun i => volB (N.b i) (Z i)) i] at hown6
                have HO := hid (hown6.kept (gb_set (World.grownBy.refl w6 (some (z + 1))) 1 (.slice (some ⟨g1, 0, none⟩) (i + 1) cap1)) (.inr (fun e => by have := (hown6.lt g1 rfl).1; simp [Value.ownBlock] at e; omega)))
                have HM := hid (Bk.set (g := z) e0 (p := ⟨z + 1, 1, none⟩) (show z ≠ z + 1 by omega) (.slice (some ⟨g1, 0, none⟩) (i + 1) cap1))
                have HT := hid (Bk.put3 (g := z + 1) e1 (.slice (some ⟨g1, 0, none⟩) (i + 1) cap1))
                have HX := hid hbx
                clear hbx hown6 hgrow6 hat6 hlt6 e0 e1 u0 u1 u2 fu s0 s1 s2 y0 y1 y2 y3 k0 k1 k2 k3 k4 k5 hb5 D1 D2 T6 T7 M6 M7 T4 M4 szz
                go_wp2
                go_roundw
                case rel => exact ⟨i + 1, _, by omega, by go_num, hid (fun j hj => by rcases Nat.lt_or_ge j i with h | h; exact HN.out j h; have : j = i := (by omega); subst this; exact hin'), HM.out, HT.out, HO.out, HX.out⟩
                case measure => simp [intOf]; omega
            · have hin0 := Bool.eq_false_iff.2 hin
              have HE := hid (show Fo N t N.n Z 2 from ⟨0, HQ.out, .inr ⟨rfl, .inr ⟨hm', .inr ⟨rfl, .inl ⟨fun hh => hin (inB_t (hh i hlt)), rfl⟩⟩⟩⟩⟩)
              clear hin
              go_region_held3 (fun w' => w'.cell? ⟨gb, 0, none⟩ = some (.string (N.b i).nm) ∧ w'.cell? ⟨gb, 1, none⟩ = some (.slice (N.b i).A (N.b i).n (N.b i).c) ∧ w'.cell? ⟨gb, 2, none⟩ = some (.int .i64 (N.b i).rim) ∧ w'.cell? (al.add i) = some (.int .i64 (Z i))) (first | with_reducible exact Ybi.cells D0 | with_reducible exact Ybi.cells D1) (first
                | (go_at_call 45; with_reducible refine (isLevelOf_any (N.b i).nm (Z i) D0.b.a hpos).mono ?_; rintro e w4 ⟨rfl, hb4⟩; have D1 := D0.below hb4))
              have T6 := Bk.step (W := wa.drew) T5 hb4
              have M6 := Bk.step (W := wa.drew) M5 hb4
              have Own6 := hid (own_below Own5.out.drew hb4)
              have HB6 := hid (Hba.out.drew.trans (hb4.mono (by have := T5.lt; show z ≤ wa.heap.size; omega)))
              have R6 := Bk.step (W := wa.drew) R5 hb4
              have HBb := hid (bthen HBa.out.drew hb4 (Nat.le_refl _))
              clear hb4 D0 T5 M5 R2 R3 R5 M6 T6 Own6 HB6
              obtain ⟨r0, r1, r2⟩ := R6.c3
              have f0 := R6.fz 0
              have f1 := R6.fz 1
              have f2 := R6.fz 2
              go_wp2_with fail
              have RZ := R6.put_all (.int .i64 0) (.slice none 0 0) (.slice none 0 0)
              have hbz := hid (((HBb.out.setCell (p := ⟨g + 1, 0, none⟩) (by have := Hg.out; show w.heap.size ≤ g + 1; omega) (.int .i64 0)).setCell (p := ⟨g + 1, 1, none⟩) (by have := Hg.out; show w.heap.size ≤ g + 1; omega) (.slice none 0 0)).setCell (p := ⟨g + 1, 2, none⟩) (by have := Hg.out; show w.heap.size ≤ g + 1; omega) (.slice none 0 0))
              clear R6
              generalize ((w4.setCell ⟨g + 1, 0, none⟩ (.int .i64 0)).setCell ⟨g + 1, 1, none⟩ (.slice none 0 0)).setCell ⟨g + 1, 2, none⟩ (.slice none 0 0) = WZ at *
              clear r0 r1 r2
              obtain ⟨r0, r1, r2⟩ := RZ.c3
              show bodyPost _ _ _ _ _ _
              exact bodyPost_ret (v := .tuple #[.agg #[.int .i64 0, .slice none 0 0, .slice none 0 0], .int .i64 2]) (by simp [results, Try.results11, go_sem, r0, r1, r2]) rfl ⟨_, _, rfl, HE, hid (.inl ⟨by decide, rfl⟩), hbz.out⟩
          · have e : i = N.n := by omega
            have dlt : decide ((i : Int) < (N.n : Int)) = false := decide_eq_false (by omega)
            subst e
            obtain ⟨av, cv, rfl⟩ := own_any Own4.out
            have HE := hid (show Fo N t N.n Z 0 from ⟨0, HQ.out, .inr ⟨rfl, .inr ⟨hm', .inr ⟨rfl, .inr ⟨HN.out, rfl⟩⟩⟩⟩⟩)
            obtain ⟨r0, r1, r2⟩ := R3.c3
            obtain ⟨s0, s1, s2⟩ := T4.c3
            have f0 := R3.fz 0
            have f1 := R3.fz 1
            have f2 := R3.fz 2
            go_wp2_with fail
            have RZ := R3.put_all (.int .i64 t) (.slice av N.n cv) (.slice (some ⟨z, 0, none⟩) N.k N.k)
            have hbz := hid (((HBw.out.setCell (p := ⟨g + 1, 0, none⟩) (by have := Hg.out; show w.heap.size ≤ g + 1; omega) (.int .i64 t)).setCell (p := ⟨g + 1, 1, none⟩) (by have := Hg.out; show w.heap.size ≤ g + 1; omega) (.slice av N.n cv)).setCell (p := ⟨g + 1, 2, none⟩) (by have := Hg.out; show w.heap.size ≤ g + 1; omega) (.slice (some ⟨z, 0, none⟩) N.k N.k))
            have MZ := hid (((M4.set (p := ⟨g + 1, 0, none⟩) (show z ≠ g + 1 by omega) (.int .i64 t)).set (p := ⟨g + 1, 1, none⟩) (show z ≠ g + 1 by omega) (.slice av N.n cv)).set (p := ⟨g + 1, 2, none⟩) (show z ≠ g + 1 by omega) (.slice (some ⟨z, 0, none⟩) N.k N.k))
            have OZ := hid (own_base (Own4.out.kept (gb_set (gb_set (gb_set (World.grownBy.refl wr (some (g + 1))) 0 (.int .i64 t)) 1 (.slice av N.n cv)) 2 (.slice (some ⟨z, 0, none⟩) N.k N.k)) (.inr (fun e => by have := (Own4.out.lt (g + 1) e).1; omega))) (base' := w.heap.size) (by have := Hg.out; omega))
            clear R3 R2 M4 T4 K2 K3 K4
            generalize ((wr.setCell ⟨g + 1, 0, none⟩ (.int .i64 t)).setCell ⟨g + 1, 1, none⟩ (.slice av N.n cv)).setCell ⟨g + 1, 2, none⟩ (.slice (some ⟨z, 0, none⟩) N.k N.k) = WZ at *
            clear r0 r1 r2
            obtain ⟨r0, r1, r2⟩ := RZ.c3
            show bodyPost _ _ _ _ _ _
            exact bodyPost_ret (v := .tuple #[.agg #[.int .i64 t, .slice av N.n cv, .slice (some ⟨z, 0, none⟩) N.k N.k], .int .i64 0]) (by simp [results, Try.results11, go_sem, r0, r1, r2]) rfl ⟨_, _, rfl, HE, hid (.inr ⟨rfl, _, z, rfl, OZ.out, _, MZ.out⟩), hbz.out⟩
      · have d1 : ((nl : Int) != (N.n : Int)) = true := by rw [bne_iff_ne]; omega
        have HE := hid (show Fo N t nl Z 11 from ⟨0, HQ.out, .inr ⟨rfl, .inr ⟨hm', .inl ⟨hln, rfl⟩⟩⟩⟩)
        clear hln
        go_wp2_with (((with_reducible refine (isMinute_any _ _).mono ?_); rintro e w' ⟨rfl, rfl⟩))
        have RZ := R2.put_all (.int .i64 0) (.slice none 0 0) (.slice none 0 0)
        have hbz := hid (((HB2.out.setCell (p := ⟨g + 1, 0, none⟩) (by have := Hg.out; show w.heap.size ≤ g + 1; omega) (.int .i64 0)).setCell (p := ⟨g + 1, 1, none⟩) (by have := Hg.out; show w.heap.size ≤ g + 1; omega) (.slice none 0 0)).setCell (p := ⟨g + 1, 2, none⟩) (by have := Hg.out; show w.heap.size ≤ g + 1; omega) (.slice none 0 0))
        clear R2
        generalize ((w2.setCell ⟨g + 1, 0, none⟩ (.int .i64 0)).setCell ⟨g + 1, 1, none⟩ (.slice none 0 0)).setCell ⟨g + 1, 2, none⟩ (.slice none 0 0) = WZ at *
        clear r0 r1 r2
        obtain ⟨r0, r1, r2⟩ := RZ.c3
        exact bodyPost_ret (v := .tuple #[.agg #[.int .i64 0, .slice none 0 0, .slice none 0 0], .int .i64 11]) (by simp [results, Try.results11, go_sem, r0, r1, r2]) rfl ⟨_, _, rfl, HE, hid (.inl ⟨by decide, rfl⟩), hbz.out⟩
    · have HE := hid (show Fo N t nl Z 2 from ⟨0, HQ.out, .inr ⟨rfl, .inl ⟨fun hx => hm (inB_t hx), rfl⟩⟩⟩)
      have hm0 := Bool.eq_false_iff.2 hm
      clear hm
      go_wp2_with (((with_reducible refine (isMinute_any _ _).mono ?_); rintro e w' ⟨rfl, rfl⟩))
      have RZ := R2.put_all (.int .i64 0) (.slice none 0 0) (.slice none 0 0)
      have hbz := hid (((HB2.out.setCell (p := ⟨g + 1, 0, none⟩) (by have := Hg.out; show w.heap.size ≤ g + 1; omega) (.int .i64 0)).setCell (p := ⟨g + 1, 1, none⟩) (by have := Hg.out; show w.heap.size ≤ g + 1; omega) (.slice none 0 0)).setCell (p := ⟨g + 1, 2, none⟩) (by have := Hg.out; show w.heap.size ≤ g + 1; omega) (.slice none 0 0))
      clear R2
      generalize ((w2.setCell ⟨g + 1, 0, none⟩ (.int .i64 0)).setCell ⟨g + 1, 1, none⟩ (.slice none 0 0)).setCell ⟨g + 1, 2, none⟩ (.slice none 0 0) = WZ at *
      clear r0 r1 r2
      obtain ⟨r0, r1, r2⟩ := RZ.c3
      exact bodyPost_ret (v := .tuple #[.agg #[.int .i64 0, .slice none 0 0, .slice none 0 0], .int .i64 2]) (by simp [results, Try.results11, go_sem, r0, r1, r2]) rfl ⟨_, _, rfl, HE, hid (.inl ⟨by decide, rfl⟩), hbz.out⟩
  · have hq1 : (q != 0) = true := by rw [bne_iff_ne]; exact h0
    have HE := hid (show Fo N t nl Z q from ⟨q, hq.out, .inl ⟨h0, rfl⟩⟩)
    have H0 := hid h0
    clear h0
    go_wp2
    have RZ := R2.put_all (.int .i64 0) (.slice none 0 0) (.slice none 0 0)
    have hbz := hid (((HB2.out.setCell (p := ⟨g + 1, 0, none⟩) (by have := Hg.out; show w.heap.size ≤ g + 1; omega) (.int .i64 0)).setCell (p := ⟨g + 1, 1, none⟩) (by have := Hg.out; show w.heap.size ≤ g + 1; omega) (.slice none 0 0)).setCell (p := ⟨g + 1, 2, none⟩) (by have := Hg.out; show w.heap.size ≤ g + 1; omega) (.slice none 0 0))
    clear R2
    generalize ((w2.setCell ⟨g + 1, 0, none⟩ (.int .i64 0)).setCell ⟨g + 1, 1, none⟩ (.slice none 0 0)).setCell ⟨g + 1, 2, none⟩ (.slice none 0 0) = WZ at *
    clear r0 r1 r2
    obtain ⟨r0, r1, r2⟩ := RZ.c3
    exact bodyPost_ret (v := .tuple #[.agg #[.int .i64 0, .slice none 0 0, .slice none 0 0], .int .i64 q]) (by simp [results, Try.results11, go_sem, r0, r1, r2]) rfl ⟨_, _, rfl, HE, hid (.inl ⟨H0.out, rfl⟩), hbz.out⟩

end Go.Proofs.Ytndcopljjnbkbaa
