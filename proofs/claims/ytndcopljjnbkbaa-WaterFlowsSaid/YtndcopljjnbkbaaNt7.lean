/- Networks: the error of a state. For all networks and states whose lists are not endless. -/
import Derived.Test.YtndcopljjnbkbaaNt6
namespace Go.Proofs.Ytndcopljjnbkbaa
open Go.RowKit Go.Maps Kb Wb

/-- A state: its minute, litres, and which links are open. -/
structure Wd where
  min : Int
  A : Option Addr
  n : Nat
  c : Nat
  X : Nat → Int
  M : Option Addr
  m : Nat
  d : Nat
  Y : Nat → Bool
structure Wt (w : World) (B0 : Nat) (W : Wd) : Prop where
  x : ∀ i, i < W.n → ∃ ad, W.A = some ad ∧ ad.block < B0 ∧ w.cell? (ad.add i) = some (.int .i64 (W.X i))
  y : ∀ i, i < W.m → ∃ ad, W.M = some ad ∧ ad.block < B0 ∧ w.cell? (ad.add i) = some (.bool (W.Y i))
  le : B0 ≤ w.heap.size
  nc : W.n ≤ W.c
  cm : W.c ≤ maxLen
  md : W.m ≤ W.d
  dm : W.d ≤ maxLen
theorem Wt.below {w w' : World} {B0 : Nat} {W : Wd} (h : Wt w B0 W) (hb : Below w.heap.size w w') : Wt w' B0 W :=
  ⟨fun i hi => by
    obtain ⟨ad, e, h1, h2⟩ := h.x i hi
    exact ⟨ad, e, h1, (hb.cell (p := ad.add i) (in_add (Nat.lt_of_lt_of_le h1 h.le))).trans h2⟩, fun i hi => by
    obtain ⟨ad, e, h1, h2⟩ := h.y i hi
    exact ⟨ad, e, h1, (hb.cell (p := ad.add i) (in_add (Nat.lt_of_lt_of_le h1 h.le))).trans h2⟩, Nat.le_trans h.le hb.size, h.nc, h.cm, h.md, h.dm⟩
/-- A state in a box. -/
structure Wx (w : World) (g B0 : Nat) (W : Wd) : Prop where
  b : Bk w g (.cells #[.int .i64 W.min, .slice W.A W.n W.c, .slice W.M W.m W.d] 33)
  a : Wt w B0 W
section
variable {w w' : World} {g B0 : Nat} {W : Wd}
theorem Wx.below (h : Wx w g B0 W) (hb : Below w.heap.size w w') : Wx w' g B0 W := ⟨h.b.step hb, h.a.below hb⟩
theorem Wx.cells (h : Wx w g B0 W) : w.cell? ⟨g, 0, none⟩ = some (.int .i64 W.min) ∧ w.cell? ⟨g, 1, none⟩ = some (.slice W.A W.n W.c) ∧ w.cell? ⟨g, 2, none⟩ = some (.slice W.M W.m W.d) := h.b.c3
end
/-- The most that basin i holds. -/
def capB (b : Bd) : Int := wbelow b.F b.S b.n b.rim
/-- Whether the litres of basin i are within its capacity. -/
def LitOk (N : Nd) (W : Wd) (i : Nat) : Prop := 0 ≤ W.X i ∧ W.X i ≤ capB (N.b i)
/-- r is the error of a state. -/
def We (N : Nd) (W : Wd) (r : Int) : Prop := ∃ q, Cn N q ∧ ((q ≠ 0 ∧ r = q) ∨ (q = 0 ∧ ((¬ (0 ≤ W.min ∧ W.min ≤ 1000000) ∧ r = 2) ∨ ((0 ≤ W.min ∧ W.min ≤ 1000000) ∧ ((¬ (W.n = N.n ∧ W.m = N.k) ∧ r = 11) ∨ ((W.n = N.n ∧ W.m = N.k) ∧ ((¬ (∀ i, i < N.n → LitOk N W i) ∧ r = 2) ∨ ((∀ i, i < N.n → LitOk N W i) ∧ r = 0))))))))
theorem We.same {N : Nd} {W : Wd} {r s : Int} (h : We N W r) (k : We N W s) : r = s := by
  obtain ⟨q, hq, h⟩ := h
  obtain ⟨p, hp, k⟩ := k
  have := hq.same hp
  subst this
  rcases h with ⟨h0, rfl⟩ | ⟨h0, ⟨h1, rfl⟩ | ⟨h1, ⟨h2, rfl⟩ | ⟨h2, ⟨h3, rfl⟩ | ⟨h3, rfl⟩⟩⟩⟩ <;> rcases k with ⟨k0, rfl⟩ | ⟨k0, ⟨k1, rfl⟩ | ⟨k1, ⟨k2, rfl⟩ | ⟨k2, ⟨k3, rfl⟩ | ⟨k3, rfl⟩⟩⟩⟩ <;> first | rfl | exact absurd k0 h0 | exact absurd h0 k0 | exact absurd k1 h1 | exact absurd h1 k1 | exact absurd k2 h2 | exact absurd h2 k2 | exact absurd k3 h3 | exact absurd h3 k3
theorem Cn.bas {N : Nd} (h : Cn N 0) {i : Nat} (hi : i < N.n) : Bas (N.b i).F (N.b i).S (N.b i).n (N.b i).rim := by
  rcases h.zero.1 with ⟨_, h⟩ | ⟨_, ⟨j, hj, _, h1⟩ | ⟨h1, _⟩⟩
  · cases h
  · rcases h1 with ⟨_, h⟩ | ⟨_, _, h⟩ | ⟨_, _, _, h⟩
    · cases h
    · cases h
    · exact absurd rfl h
  · exact (h1 i hi).2.2.bas
theorem Cn.few {N : Nd} (h : Cn N 0) : N.n ≤ 8 ∧ N.k ≤ 12 := by
  obtain ⟨h1, _, h3⟩ := h.zero
  refine ⟨?_, ?_⟩
  · rcases h1 with ⟨_, h⟩ | ⟨h, _⟩
    · cases h
    · exact h
  · rcases h3 with ⟨_, h⟩ | ⟨h, _⟩
    · cases h
    · exact h

/-- A state and a basin in boxes, and what stands at its litres. -/
structure Wbi (w : World) (g gb B0 B1 : Nat) (W : Wd) (b : Bd) (ad : Addr) (i : Nat) : Prop where
  v : Wx w g B0 W
  b : Bx w gb b.nm b.A b.n b.c b.rim B1 b.F b.S
  A : W.A = some ad
  i : i < W.n
theorem Wbi.below {w w' : World} {g gb B0 B1 : Nat} {W : Wd} {b : Bd} {ad : Addr} {i : Nat} (h : Wbi w g gb B0 B1 W b ad i) (hb : Below w.heap.size w w') : Wbi w' g gb B0 B1 W b ad i := ⟨h.v.below hb, h.b.below hb, h.A, h.i⟩
theorem Wbi.cells {w' : World} {g gb B0 B1 : Nat} {W : Wd} {b : Bd} {ad : Addr} {i : Nat} (h : Wbi w' g gb B0 B1 W b ad i) : w'.cell? ⟨g, 0, none⟩ = some (.int .i64 W.min) ∧ w'.cell? ⟨g, 1, none⟩ = some (.slice (some ad) W.n W.c) ∧ w'.cell? ⟨g, 2, none⟩ = some (.slice W.M W.m W.d) ∧ w'.cell? ⟨gb, 0, none⟩ = some (.string b.nm) ∧ w'.cell? ⟨gb, 1, none⟩ = some (.slice b.A b.n b.c) ∧ w'.cell? ⟨gb, 2, none⟩ = some (.int .i64 b.rim) ∧ w'.cell? (ad.add i) = some (.int .i64 (W.X i)) := by
  obtain ⟨a0, a1, a2⟩ := h.v.cells
  obtain ⟨b0, b1, b2⟩ := h.b.cells
  obtain ⟨ad', hA, _, q0⟩ := h.v.a.x i h.i
  rw [h.A] at hA a1
  injection hA with hA
  subst hA
  exact ⟨a0, a1, a2, b0, b1, b2, q0⟩

set_option maxRecDepth 100000 in
set_option maxHeartbeats 8000000 in
theorem waterError_any {w : World} {B0 B1 : Nat} {N : Nd} {W : Wd} (h : Nt w B0 N) (hs : Nsm N) (hw : Wt w B1 W) :
    Calls Try.prog 54 #[.agg #[.slice N.A N.n N.c, .slice N.M N.m N.d, .slice N.K N.k N.e], .agg #[.int .i64 W.min, .slice W.A W.n W.c, .slice W.M W.m W.d]] w fun e w' => ∃ r : Int, e = .returned (.int .i64 r) ∧ Hid (We N W r) ∧ Below w.heap.size w w' := by
  have hnn := hs.n
  have hkk := hs.k
  have hn9 : W.n ≤ 9223372036854775807 := by have := Nat.le_trans hw.nc hw.cm; unfold maxLen at this; omega
  have hm9 : W.m ≤ 9223372036854775807 := by have := Nat.le_trans hw.md hw.dm; unfold maxLen at this; omega
  obtain ⟨g, hg⟩ : ∃ g, w.heap.size = g := ⟨_, rfl⟩
  have hb0 := ((Below.refl w.heap.size w).alloc (Nat.le_refl _) (.cells #[.slice N.A N.n N.c, .slice N.M N.m N.d, .slice N.K N.k N.e] 26)).alloc (by simp) (.cells #[.int .i64 W.min, .slice W.A W.n W.c, .slice W.M W.m W.d] 33)
  have K1 := (Nb.new h hg).below (alo (o := .cells #[.int .i64 W.min, .slice W.A W.n W.c, .slice W.M W.m W.d] 33))
  have V1 : Wx _ (g + 1) B1 W := ⟨Bk.of_alloc (w.alloc (.cells #[.slice N.A N.n N.c, .slice N.M N.m N.d, .slice N.K N.k N.e] 26)) (.cells #[.int .i64 W.min, .slice W.A W.n W.c, .slice W.M W.m W.d] 33) (by simp [hg]), hw.below (hb0.mono (Nat.le_refl _))⟩
  go_enter Try.func54, Try.ntmps54
  go_wp2_with fail
  generalize (w.alloc (.cells #[.slice N.A N.n N.c, .slice N.M N.m N.d, .slice N.K N.k N.e] 26)).alloc (.cells #[.int .i64 W.min, .slice W.A W.n W.c, .slice W.M W.m W.d] 33) = W0 at *
  have HB0 := hid hb0
  have Hh := hid h
  have Hg := hid hg
  have Hw := hid hw
  clear hb0 h hg hw
  refine (CheckNetwork_any K1.a hs).mono ?_
  rintro e w2 ⟨q, rfl, hq, hb⟩
  have K2 := K1.below hb
  have V2 := V1.below hb
  have HB2 := hid (bthen HB0.out hb (Nat.le_refl _))
  clear hb K1 V1
  obtain ⟨x0, x1, x2⟩ := K2.cells
  obtain ⟨y0, y1, y2⟩ := V2.cells
  by_cases h0 : q = 0
  · subst h0
    have HQ : Hid (Cn N 0) := hq
    by_cases hm : inB W.min 0 1000000 = true
    · have hm' := inB_iff.1 hm
      by_cases hln : W.n = N.n ∧ W.m = N.k
      · have Hln := hid hln
        have d1 : ((W.n : Int) != (N.n : Int)) = false := by rw [bne_eq_false_iff_eq]; omega
        have d2 : ((W.m : Int) != (N.k : Int)) = false := by rw [bne_eq_false_iff_eq]; omega
        clear hln
        go_wp2_with (((with_reducible refine (isMinute_any _ _).mono ?_); rintro e w' ⟨rfl, rfl⟩))
        clear d1 d2 x0 x1 x2 y0 y1 y2
        have hfew := HQ.out.few
        go_loopw [36] (fun iv wr => ∃ (i : Nat), i ≤ N.n ∧ iv = .int .i64 i ∧ Hid (∀ j, j < i → LitOk N W j) ∧ Below w2.heap.size w2 wr) (fun iv _ => N.n - (intOf iv).toNat)
        case atStart => exact ⟨0, Nat.zero_le _, rfl, hid (fun j hj => absurd hj (Nat.not_lt_zero _)), Below.refl _ _⟩
        case round =>
          obtain ⟨i, hi, rfl, HN, hbel⟩ := hrel
          have K3 := K2.below hbel
          have V3 := V2.below hbel
          have HB3 := hid (bthen HB2.out hbel (Nat.le_refl _))
          have Hbel := hid hbel
          clear hbel
          by_cases hlt : i < N.n
          · obtain ⟨ad, hA, hl, q0, q1, q2, hP, hP1, hP2⟩ := K3.a.b.at_ i hlt
            have B := HQ.out.bas hlt
            have ha := alo (W := wr) (o := (.cells #[.string (N.b i).nm, .slice (N.b i).A (N.b i).n (N.b i).c, .int .i64 (N.b i).rim] 42))
            obtain ⟨gb, hgb⟩ : ∃ gb, wr.heap.size = gb := ⟨_, rfl⟩
            have X4 := Bx.new (N.b i).nm (N.b i).c (N.b i).rim hP hgb
            have V4 := V3.below ha
            have Hba := hid (Hbel.out.trans (ha.mono Hbel.out.size))
            have HBa := hid (bthen HB3.out ha (Nat.le_refl _))
            obtain ⟨al, hAl, -, -⟩ := V3.a.x i (by have := Hln.out; omega)
            have D0 : Wbi _ (g + 1) gb B1 B0 W (N.b i) al i := (Wbi.mk V4 X4 hAl (by have := Hln.out; omega)).below dr0
            have dlt : decide ((i : Int) < (N.n : Int)) = true := decide_eq_true (by omega)
            clear ha hP hP1 hP2 X4 V4 V3 hAl
            go_upto_region 11 with (fail)
            generalize wr.alloc (.cells #[.string (N.b i).nm, .slice (N.b i).A (N.b i).n (N.b i).c, .int .i64 (N.b i).rim] 42) = wa at *
            have Hgb := hid hgb
            have HA := hid hA
            clear hgb q0 q1 q2 hA dlt
            have hil : (i : Int) < (W.n : Int) := by have := Hln.out; omega
            by_cases hok : inB (W.X i) 0 (wbelow (N.b i).F (N.b i).S (N.b i).n (N.b i).rim) = true
            · have HG := hid (show LitOk N W i from inB_iff.1 hok)
              have hok2 : (!inB (W.X i) 0 (wbelow (N.b i).F (N.b i).S (N.b i).n (N.b i).rim)) = false := by rw [hok]; rfl
              go_region_held3 (fun w' => w'.cell? ⟨g + 1, 0, none⟩ = some (.int .i64 W.min) ∧ w'.cell? ⟨g + 1, 1, none⟩ = some (.slice (some al) W.n W.c) ∧ w'.cell? ⟨g + 1, 2, none⟩ = some (.slice W.M W.m W.d) ∧ w'.cell? ⟨gb, 0, none⟩ = some (.string (N.b i).nm) ∧ w'.cell? ⟨gb, 1, none⟩ = some (.slice (N.b i).A (N.b i).n (N.b i).c) ∧ w'.cell? ⟨gb, 2, none⟩ = some (.int .i64 (N.b i).rim) ∧ w'.cell? (al.add i) = some (.int .i64 (W.X i))) (first | with_reducible exact Wbi.cells D0 | with_reducible exact Wbi.cells D1 | with_reducible exact Wbi.cells D2) (first
                | (go_at_call 75; with_reducible refine (capacity_any (N.b i).nm D0.b.a B).mono ?_; rintro e w4 ⟨rfl, hb4⟩; have D1 := D0.below hb4)
                | (go_at_call 71; with_reducible refine (Within_any _ _ _ _).mono ?_; rintro e w5 ⟨rfl, rfl⟩; have D2 := D1))
              have HB4 := hid (Hba.out.drew.trans (hb4.mono Hba.out.drew.size))
              have HBw4 := hid (bthen HBa.out.drew hb4 (Nat.le_refl _))
              clear hb4 D0 D1
              go_wp2
              go_roundw
              case rel => exact ⟨i + 1, by omega, by go_num, hid (fun j hj => by rcases Nat.lt_or_ge j i with h | h; exact HN.out j h; have : j = i := (by omega); subst this; exact HG.out), HB4.out⟩
              case measure => simp [intOf]; omega
            · have hok' := Bool.eq_false_iff.2 hok
              have hok2 : (!inB (W.X i) 0 (wbelow (N.b i).F (N.b i).S (N.b i).n (N.b i).rim)) = true := by rw [hok']; rfl
              have HE := hid (show We N W 2 from ⟨0, HQ.out, .inr ⟨rfl, .inr ⟨hm', .inr ⟨Hln.out, .inl ⟨fun hh => hok (inB_t (hh i hlt)), rfl⟩⟩⟩⟩⟩)
              clear hok
              go_region_held3 (fun w' => w'.cell? ⟨g + 1, 0, none⟩ = some (.int .i64 W.min) ∧ w'.cell? ⟨g + 1, 1, none⟩ = some (.slice (some al) W.n W.c) ∧ w'.cell? ⟨g + 1, 2, none⟩ = some (.slice W.M W.m W.d) ∧ w'.cell? ⟨gb, 0, none⟩ = some (.string (N.b i).nm) ∧ w'.cell? ⟨gb, 1, none⟩ = some (.slice (N.b i).A (N.b i).n (N.b i).c) ∧ w'.cell? ⟨gb, 2, none⟩ = some (.int .i64 (N.b i).rim) ∧ w'.cell? (al.add i) = some (.int .i64 (W.X i))) (first | with_reducible exact Wbi.cells D0 | with_reducible exact Wbi.cells D1 | with_reducible exact Wbi.cells D2) (first
                | (go_at_call 75; with_reducible refine (capacity_any (N.b i).nm D0.b.a B).mono ?_; rintro e w4 ⟨rfl, hb4⟩; have D1 := D0.below hb4)
                | (go_at_call 71; with_reducible refine (Within_any _ _ _ _).mono ?_; rintro e w5 ⟨rfl, rfl⟩; have D2 := D1))
              have HB4 := hid (Hba.out.drew.trans (hb4.mono Hba.out.drew.size))
              have HBw4 := hid (bthen HBa.out.drew hb4 (Nat.le_refl _))
              clear hb4 D0 D1
              go_wp2
              go_ret
              exact ⟨2, rfl, HE, HBw4.out⟩
          · have e : i = N.n := by omega
            have HE := hid (show We N W 0 from ⟨0, HQ.out, .inr ⟨rfl, .inr ⟨hm', .inr ⟨Hln.out, .inr ⟨by rw [← e]; exact HN.out, rfl⟩⟩⟩⟩⟩)
            have dlt : decide ((i : Int) < (N.n : Int)) = false := decide_eq_false (by omega)
            clear e
            go_wp2
            go_ret
            exact ⟨0, rfl, HE, HB3.out⟩
      · have HE := hid (show We N W 11 from ⟨0, HQ.out, .inr ⟨rfl, .inr ⟨hm', .inl ⟨hln, rfl⟩⟩⟩⟩)
        by_cases hl1 : W.n = N.n
        · have d1 : ((W.n : Int) != (N.n : Int)) = false := by rw [bne_eq_false_iff_eq]; omega
          have d2 : ((W.m : Int) != (N.k : Int)) = true := by rw [bne_iff_ne]; exact fun e => hln ⟨hl1, by omega⟩
          clear hln hl1
          go_wp2_with (((with_reducible refine (isMinute_any _ _).mono ?_); rintro e w' ⟨rfl, rfl⟩))
          go_ret
          exact ⟨11, rfl, HE, HB2.out⟩
        · have d1 : ((W.n : Int) != (N.n : Int)) = true := by rw [bne_iff_ne]; omega
          clear hln hl1
          go_wp2_with (((with_reducible refine (isMinute_any _ _).mono ?_); rintro e w' ⟨rfl, rfl⟩))
          go_ret
          exact ⟨11, rfl, HE, HB2.out⟩
    · have HE := hid (show We N W 2 from ⟨0, HQ.out, .inr ⟨rfl, .inl ⟨fun hx => hm (inB_t hx), rfl⟩⟩⟩)
      have hm0 := Bool.eq_false_iff.2 hm
      clear hm
      go_wp2_with (((with_reducible refine (isMinute_any _ _).mono ?_); rintro e w' ⟨rfl, rfl⟩))
      go_ret
      exact ⟨2, rfl, HE, HB2.out⟩
  · have hq1 : (q != 0) = true := by rw [bne_iff_ne]; exact h0
    have HE := hid (show We N W q from ⟨q, hq.out, .inl ⟨h0, rfl⟩⟩)
    clear h0
    go_wp2
    go_ret
    exact ⟨q, rfl, HE, HB2.out⟩

end Go.Proofs.Ytndcopljjnbkbaa
