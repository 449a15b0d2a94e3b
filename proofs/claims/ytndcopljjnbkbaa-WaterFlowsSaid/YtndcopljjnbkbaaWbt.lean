/- Volume and Level, of the program and of the reference. For all basins, levels and volumes. -/
import Derived.Test.YtndcopljjnbkbaaWbl
namespace Go.Proofs.Ytndcopljjnbkbaa
open Go.RowKit Kb Wb

/-- What Volume tells. -/
def Vo (nm : Bool) (n : Nat) (F S : Nat → Int) (rim lv r e : Int) : Prop := ∃ q, Cb nm n F S rim q ∧ ((q ≠ 0 ∧ r = 0 ∧ e = q) ∨ (q = 0 ∧ ((¬ (F 0 ≤ lv ∧ lv ≤ rim) ∧ r = 0 ∧ e = 2) ∨ ((F 0 ≤ lv ∧ lv ≤ rim) ∧ r = wbelow F S n lv ∧ e = 0))))
/-- What Level tells. -/
def Lo (nm : Bool) (n : Nat) (F S : Nat → Int) (rim v r e : Int) : Prop := ∃ q, Cb nm n F S rim q ∧ ((q ≠ 0 ∧ r = 0 ∧ e = q) ∨ (q = 0 ∧ ((¬ (0 ≤ v ∧ v ≤ wbelow F S n rim) ∧ r = 0 ∧ e = 2) ∨ ((0 ≤ v ∧ v ≤ wbelow F S n rim) ∧ Lev F S n rim v r ∧ e = 0))))
theorem Vo.same {nm : Bool} {n : Nat} {F S : Nat → Int} {rim lv r e r' e' : Int} (h : Vo nm n F S rim lv r e) (k : Vo nm n F S rim lv r' e') : r = r' ∧ e = e' := by
  obtain ⟨q, hq, h⟩ := h
  obtain ⟨p, hp, k⟩ := k
  have := hq.same hp
  subst this
  rcases h with ⟨h0, h1, h2⟩ | ⟨h0, ⟨h1, h2, h3⟩ | ⟨h1, h2, h3⟩⟩ <;> rcases k with ⟨k0, k1, k2⟩ | ⟨k0, ⟨k1, k2, k3⟩ | ⟨k1, k2, k3⟩⟩ <;> first | exact absurd k0 h0 | exact absurd h0 k0 | exact absurd k1 h1 | exact absurd h1 k1 | exact ⟨by omega, by omega⟩
theorem Lo.same {nm : Bool} {n : Nat} {F S : Nat → Int} {rim lv r e r' e' : Int} (h : Lo nm n F S rim lv r e) (k : Lo nm n F S rim lv r' e') : r = r' ∧ e = e' := by
  obtain ⟨q, hq, h⟩ := h
  obtain ⟨p, hp, k⟩ := k
  have := hq.same hp
  subst this
  rcases h with ⟨h0, h1, h2⟩ | ⟨h0, ⟨h1, h2, h3⟩ | ⟨h1, h2, h3⟩⟩ <;> rcases k with ⟨k0, k1, k2⟩ | ⟨k0, ⟨k1, k2, k3⟩ | ⟨k1, k2, k3⟩⟩ <;> first | exact absurd k0 h0 | exact absurd h0 k0 | exact absurd k1 h1 | exact absurd h1 k1 | exact ⟨by omega, by omega⟩ | (subst h0; exact ⟨h2.same hq.bas k2, by omega⟩)


set_option maxRecDepth 100000 in
set_option maxHeartbeats 8000000 in
theorem Volume_any {w : World} {B0 n c : Nat} {A : Option Addr} {F S : Nat → Int} {rim : Int} {s : ByteArray} (lv : Int) (h : Pa w B0 A n F S) (hn : n ≤ maxLen) (hs : s.size ≤ 1000000000) :
    Calls Try.prog 36 #[.agg #[.string s, .slice A n c, .int .i64 rim], .int .i64 lv] w fun e w' => ∃ r x : Int, e = .returned (.tuple #[.int .i64 r, .int .i64 x]) ∧ Hid (Vo (nameB s) n F S rim lv r x) ∧ Below w.heap.size w w' := by
  have hb0 := alo (W := w) (o := (.cells #[.string s, .slice A n c, .int .i64 rim] 42))
  obtain ⟨g, hg⟩ : ∃ g, w.heap.size = g := ⟨_, rfl⟩
  have K := Bx.new s c rim h hg
  have hn' := hid hn
  clear hn
  go_enter Try.func36, Try.ntmps36
  go_wp2_with fail
  generalize w.alloc (.cells #[.string s, .slice A n c, .int .i64 rim] 42) = W0 at *
  have HB0 := hid hb0
  have Hg := hid hg
  have Hh := hid h
  clear hb0 hg h
  refine (CheckBasin_any K.a hn'.out hs).mono ?_
  rintro e w2 ⟨q, rfl, hz, hb⟩
  have K2 := K.below hb
  have HB := hid (bthen HB0.out hb (Nat.le_refl _))
  clear hb K
  obtain ⟨x0, x1, x2⟩ := K2.cells
  by_cases hq : q = 0
  · subst hq
    have HZ : Hid (Cb (nameB s) n F S rim 0) := hz
    have B := hz.out.bas
    have hpos := B.pos
    have hrm := B.rm
    have hf0 := (B.f 0 hpos).1
    by_cases hl : inB lv (F 0) rim = true
    · have hl' := inB_iff.1 hl
      have HE := hid (show Vo (nameB s) n F S rim lv (wbelow F S n lv) 0 from ⟨0, HZ.out, .inr ⟨rfl, .inr ⟨hl', rfl, rfl⟩⟩⟩)
      go_wp2_with fail
      refine (isLevelOf_any s lv K2.a hpos).mono ?_
      rintro e w3 ⟨rfl, hb3⟩
      have K3 := K2.below hb3
      have HB3 := hid (bthen HB.out hb3 (Nat.le_refl _))
      clear hb3 x0 x1 x2 K2
      obtain ⟨x0, x1, x2⟩ := K3.cells
      go_wp2_with fail
      refine (volume_any s K3.a B (by omega) (by omega)).mono ?_
      rintro e w4 ⟨rfl, hb4⟩
      have HB4 := hid (bthen HB3.out hb4 (Nat.le_refl _))
      clear hb4 x0 x1 x2 K3
      go_wp2
      go_ret2
      exact ⟨_, _, rfl, HE, HB4.out⟩
    · have HE := hid (show Vo (nameB s) n F S rim lv 0 2 from ⟨0, HZ.out, .inr ⟨rfl, .inl ⟨fun hx => hl (inB_t hx), rfl, rfl⟩⟩⟩)
      have hl0 := Bool.eq_false_iff.2 hl
      clear hl
      go_wp2_with fail
      refine (isLevelOf_any s lv K2.a hpos).mono ?_
      rintro e w3 ⟨rfl, hb3⟩
      have K3 := K2.below hb3
      have HB3 := hid (bthen HB.out hb3 (Nat.le_refl _))
      clear hb3 x0 x1 x2 K2
      obtain ⟨x0, x1, x2⟩ := K3.cells
      go_wp2
      go_ret2
      exact ⟨_, _, rfl, HE, HB3.out⟩
  · have HE := hid (show Vo (nameB s) n F S rim lv 0 q from ⟨q, hz.out, .inl ⟨hq, rfl, rfl⟩⟩)
    have hq1 : (q != 0) = true := by rw [bne_iff_ne]; exact hq
    clear hq hz
    go_wp2
    go_ret2
    exact ⟨_, _, rfl, HE, HB.out⟩

set_option maxRecDepth 100000 in
set_option maxHeartbeats 8000000 in
theorem rVolume_any {w : World} {B0 n c : Nat} {A : Option Addr} {F S : Nat → Int} {rim : Int} {s : ByteArray} (lv : Int) (h : Pa w B0 A n F S) (hn : n ≤ maxLen) (hs : s.size ≤ 1000000000) :
    Calls Try.prog 13 #[.agg #[.string s, .slice A n c, .int .i64 rim], .int .i64 lv] w fun e w' => ∃ r x : Int, e = .returned (.tuple #[.int .i64 r, .int .i64 x]) ∧ Hid (Vo (nameB s) n F S rim lv r x) ∧ Below w.heap.size w w' := by
  have hb0 := alo (W := w) (o := (.cells #[.string s, .slice A n c, .int .i64 rim] 42))
  obtain ⟨g, hg⟩ : ∃ g, w.heap.size = g := ⟨_, rfl⟩
  have K := Bx.new s c rim h hg
  have hn' := hid hn
  clear hn
  go_enter Try.func13, Try.ntmps13
  go_wp2_with fail
  generalize w.alloc (.cells #[.string s, .slice A n c, .int .i64 rim] 42) = W0 at *
  have HB0 := hid hb0
  have Hg := hid hg
  have Hh := hid h
  clear hb0 hg h
  refine (rCheckBasin_any K.a hn'.out hs).mono ?_
  rintro e w2 ⟨q, rfl, hz, hb⟩
  have K2 := K.below hb
  have HB := hid (bthen HB0.out hb (Nat.le_refl _))
  clear hb K
  obtain ⟨x0, x1, x2⟩ := K2.cells
  by_cases hq : q = 0
  · subst hq
    have HZ : Hid (Cb (nameB s) n F S rim 0) := hz
    have B := hz.out.bas
    have hpos := B.pos
    have hrm := B.rm
    have hf0 := (B.f 0 hpos).1
    by_cases hl : inB lv (F 0) rim = true
    · have hl' := inB_iff.1 hl
      have HE := hid (show Vo (nameB s) n F S rim lv (wbelow F S n lv) 0 from ⟨0, HZ.out, .inr ⟨rfl, .inr ⟨hl', rfl, rfl⟩⟩⟩)
      go_wp2_with fail
      have K3d : Bx w2.drew g s A n c rim B0 F S := K2.below dr0
      go_region_held3 (fun w' => w'.cell? ⟨g, 0, none⟩ = some (.string s) ∧ w'.cell? ⟨g, 1, none⟩ = some (.slice A n c) ∧ w'.cell? ⟨g, 2, none⟩ = some (.int .i64 rim)) (first | with_reducible exact Bx.cells K3d | with_reducible exact Bx.cells K3 | with_reducible exact Bx.cells K3e) (first
        | (go_at_call 52; with_reducible refine (rFloor_any s K3d.a hpos).mono ?_; rintro e w3 ⟨rfl, hb3⟩; have K3 := K3d.below hb3)
        | (go_at_call 51; with_reducible refine (inside_any _ _ _ _).mono ?_; rintro e w3e ⟨rfl, rfl⟩; have K3e := K3))
      have HB3 := hid (bthen HB.out.drew hb3 (Nat.le_refl _))
      clear hb3 x0 x1 x2 K2 K3d
      obtain ⟨x0, x1, x2⟩ := K3.cells
      go_wp2_with fail
      refine (rBelow_any s K3.a B (by omega) (by omega)).mono ?_
      rintro e w4 ⟨rfl, hb4⟩
      have HB4 := hid (bthen HB3.out hb4 (Nat.le_refl _))
      clear hb4 x0 x1 x2 K3
      go_wp2
      go_ret2
      exact ⟨_, _, rfl, HE, HB4.out⟩
    · have HE := hid (show Vo (nameB s) n F S rim lv 0 2 from ⟨0, HZ.out, .inr ⟨rfl, .inl ⟨fun hx => hl (inB_t hx), rfl, rfl⟩⟩⟩)
      have hl0 := Bool.eq_false_iff.2 hl
      clear hl
      go_wp2_with fail
      have K3d : Bx w2.drew g s A n c rim B0 F S := K2.below dr0
      go_region_held3 (fun w' => w'.cell? ⟨g, 0, none⟩ = some (.string s) ∧ w'.cell? ⟨g, 1, none⟩ = some (.slice A n c) ∧ w'.cell? ⟨g, 2, none⟩ = some (.int .i64 rim)) (first | with_reducible exact Bx.cells K3d | with_reducible exact Bx.cells K3 | with_reducible exact Bx.cells K3e) (first
        | (go_at_call 52; with_reducible refine (rFloor_any s K3d.a hpos).mono ?_; rintro e w3 ⟨rfl, hb3⟩; have K3 := K3d.below hb3)
        | (go_at_call 51; with_reducible refine (inside_any _ _ _ _).mono ?_; rintro e w3e ⟨rfl, rfl⟩; have K3e := K3))
      have HB3 := hid (bthen HB.out.drew hb3 (Nat.le_refl _))
      clear hb3 x0 x1 x2 K2 K3d
      obtain ⟨x0, x1, x2⟩ := K3.cells
      go_wp2
      go_ret2
      exact ⟨_, _, rfl, HE, HB3.out⟩
  · have HE := hid (show Vo (nameB s) n F S rim lv 0 q from ⟨q, hz.out, .inl ⟨hq, rfl, rfl⟩⟩)
    have hq1 : (q != 0) = true := by rw [bne_iff_ne]; exact hq
    clear hq hz
    go_wp2
    go_ret2
    exact ⟨_, _, rfl, HE, HB.out⟩

set_option maxRecDepth 100000 in
set_option maxHeartbeats 8000000 in
theorem Level_any {w : World} {B0 n c : Nat} {A : Option Addr} {F S : Nat → Int} {rim : Int} {s : ByteArray} (v : Int) (h : Pa w B0 A n F S) (hc : n ≤ c) (hcm : c ≤ maxLen) (hs : s.size ≤ 1000000000) :
    Calls Try.prog 38 #[.agg #[.string s, .slice A n c, .int .i64 rim], .int .i64 v] w fun e w' => ∃ r x : Int, e = .returned (.tuple #[.int .i64 r, .int .i64 x]) ∧ Hid (Lo (nameB s) n F S rim v r x) ∧ Below w.heap.size w w' := by
  have hb0 := alo (W := w) (o := (.cells #[.string s, .slice A n c, .int .i64 rim] 42))
  obtain ⟨g, hg⟩ : ∃ g, w.heap.size = g := ⟨_, rfl⟩
  have K := Bx.new s c rim h hg
  have hc' := hid hc
  have hcm' := hid hcm
  clear hc hcm
  go_enter Try.func38, Try.ntmps38
  go_wp2_with fail
  generalize w.alloc (.cells #[.string s, .slice A n c, .int .i64 rim] 42) = W0 at *
  have HB0 := hid hb0
  have Hg := hid hg
  have Hh := hid h
  clear hb0 hg h
  refine (CheckBasin_any K.a (Nat.le_trans hc'.out hcm'.out) hs).mono ?_
  rintro e w2 ⟨q, rfl, hz, hb⟩
  have K2 := K.below hb
  have HB := hid (bthen HB0.out hb (Nat.le_refl _))
  clear hb K
  obtain ⟨x0, x1, x2⟩ := K2.cells
  by_cases hq : q = 0
  · subst hq
    have HZ : Hid (Cb (nameB s) n F S rim 0) := hz
    have B := hz.out.bas
    go_wp2_with fail
    refine (capacity_any s K2.a B).mono ?_
    rintro e w3 ⟨rfl, hb3⟩
    have K3 := K2.below hb3
    have HB3 := hid (bthen HB.out hb3 (Nat.le_refl _))
    clear hb3 x0 x1 x2 K2
    obtain ⟨x0, x1, x2⟩ := K3.cells
    by_cases hl : inB v 0 (wbelow F S n rim) = true
    · have hl' := inB_iff.1 hl
      obtain ⟨l, hL⟩ := Lev.exists B hl'.1 hl'.2
      have HE := hid (show Lo (nameB s) n F S rim v l 0 from ⟨0, HZ.out, .inr ⟨rfl, .inr ⟨hl', hL, rfl⟩⟩⟩)
      go_wp2_with (((with_reducible refine (Within_any _ _ _ _).mono ?_); rintro e w' ⟨rfl, rfl⟩))
      refine (levelOf_any s K3.a B hc'.out hcm'.out hl'.1 hl'.2 hL).mono ?_
      rintro e w4 ⟨rfl, hb4⟩
      have HB4 := hid (bthen HB3.out hb4 (Nat.le_refl _))
      clear hb4 x0 x1 x2 K3
      go_wp2
      go_ret2
      exact ⟨_, _, rfl, HE, HB4.out⟩
    · have HE := hid (show Lo (nameB s) n F S rim v 0 2 from ⟨0, HZ.out, .inr ⟨rfl, .inl ⟨fun hx => hl (inB_t hx), rfl, rfl⟩⟩⟩)
      have hl0 := Bool.eq_false_iff.2 hl
      clear hl
      go_wp2_with (((with_reducible refine (Within_any _ _ _ _).mono ?_); rintro e w' ⟨rfl, rfl⟩))
      go_ret2
      exact ⟨_, _, rfl, HE, HB3.out⟩
  · have HE := hid (show Lo (nameB s) n F S rim v 0 q from ⟨q, hz.out, .inl ⟨hq, rfl, rfl⟩⟩)
    have hq1 : (q != 0) = true := by rw [bne_iff_ne]; exact hq
    clear hq hz
    go_wp2
    go_ret2
    exact ⟨_, _, rfl, HE, HB.out⟩

end Go.Proofs.Ytndcopljjnbkbaa
