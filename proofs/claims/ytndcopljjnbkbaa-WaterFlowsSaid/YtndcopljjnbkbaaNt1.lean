/- Networks: finding basins and links by their names; isEnd, side. For all networks. -/
import Derived.Test.YtndcopljjnbkbaaNt0
namespace Go.Proofs.Ytndcopljjnbkbaa
open Go.RowKit Kb Wb

/-- A network that came in: basins, marks, links. -/
structure Nd where
  A : Option Addr
  n : Nat
  c : Nat
  b : Nat → Bd
  M : Option Addr
  m : Nat
  d : Nat
  F : Nat → Int
  L : Nat → Int
  K : Option Addr
  k : Nat
  e : Nat
  l : Nat → Ld
structure Nt (w : World) (B0 : Nat) (N : Nd) : Prop where
  b : Bl w B0 N.A N.n N.b
  s : Pa w B0 N.M N.m N.F N.L
  l : Ll w B0 N.K N.k N.l
  nc : N.n ≤ N.c
  cm : N.c ≤ maxLen
  md : N.m ≤ N.d
  dm : N.d ≤ maxLen
  ke : N.k ≤ N.e
  em : N.e ≤ maxLen
theorem Nt.below {w w' : World} {B0 : Nat} {N : Nd} (h : Nt w B0 N) (hb : Below w.heap.size w w') : Nt w' B0 N :=
  ⟨h.b.below hb, h.s.below hb, h.l.below hb, h.nc, h.cm, h.md, h.dm, h.ke, h.em⟩
/-- A network in a box. -/
structure Nb (w : World) (g : Nat) (B0 : Nat) (N : Nd) : Prop where
  b : Bk w g (.cells #[.slice N.A N.n N.c, .slice N.M N.m N.d, .slice N.K N.k N.e] 26)
  a : Nt w B0 N
section
variable {w w' : World} {g B0 : Nat} {N : Nd}
theorem Nb.below (h : Nb w g B0 N) (hb : Below w.heap.size w w') : Nb w' g B0 N := ⟨h.b.step hb, h.a.below hb⟩
theorem Nb.cells (h : Nb w g B0 N) : w.cell? ⟨g, 0, none⟩ = some (.slice N.A N.n N.c) ∧ w.cell? ⟨g, 1, none⟩ = some (.slice N.M N.m N.d) ∧ w.cell? ⟨g, 2, none⟩ = some (.slice N.K N.k N.e) := h.b.c3
theorem Nb.new (h : Nt w B0 N) (hg : w.heap.size = g) : Nb (w.alloc (.cells #[.slice N.A N.n N.c, .slice N.M N.m N.d, .slice N.K N.k N.e] 26)) g B0 N := ⟨Bk.of_alloc w _ hg, h.below alo⟩
end
abbrev Nd.bnm (N : Nd) (i : Nat) : ByteArray := (N.b i).nm
abbrev Nd.lnm (N : Nd) (i : Nat) : ByteArray := (N.l i).nm

set_option maxRecDepth 100000 in
theorem isNmL_any {w : World} {gs : Nat} {s : ByteArray} (b : Ld) (p : Bool) (hp : (b.nm.toList == s.toList) = p) (hx : w.cell? ⟨gs, 0, none⟩ = some (.string s)) (hg : gs < w.heap.size) :
    Calls Try.prog 86 #[.agg #[.string b.nm, .int .i64 b.kind, .string b.fr, .string b.tw, .int .i64 b.sill, .int .i64 b.rate, .int .i64 b.fac, .int .i64 b.lift], .pointer (some ⟨gs, 0, none⟩)] w fun e w' => e = .returned (.bool p) ∧ Below w.heap.size w w' := by
  have hb := alo (W := w) (o := (.cells #[.string b.nm, .int .i64 b.kind, .string b.fr, .string b.tw, .int .i64 b.sill, .int .i64 b.rate, .int .i64 b.fac, .int .i64 b.lift] 59))
  have hx' := (hb.cell (p := ⟨gs, 0, none⟩) hg).trans hx
  have jb := cell_of_row _ _ 0 _ _ _ (Bk.of_alloc w (.cells #[.string b.nm, .int .i64 b.kind, .string b.fr, .string b.tw, .int .i64 b.sill, .int .i64 b.rate, .int .i64 b.fac, .int .i64 b.lift] 59) rfl)
  go_enter Try.func86, Try.ntmps86
  go_wp2
  go_ret
  exact ⟨rfl, hb⟩

set_option maxRecDepth 100000 in
set_option maxHeartbeats 4000000 in
theorem IxLink_any {w : World} {B0 n c gs : Nat} {A : Option Addr} {b : Nat → Ld} {s : ByteArray} (h : Ll w B0 A n b) (hn : n ≤ 1000) (hx : w.cell? ⟨gs, 0, none⟩ = some (.string s)) (hg : gs < w.heap.size) :
    Calls Try.prog 85 #[.slice A n c, .func (.func 86) #[] #[.pointer (some ⟨gs, 0, none⟩)]] w fun e w' => ∃ r : Int, e = .returned (.int .i64 r) ∧ Hid (Ixn n (fun i => (b i).nm) s r) ∧ Below w.heap.size w w' := by
  go_enter Try.func85, Try.ntmps85
  go_wp2_with fail
  go_loopw [5, 8] (fun _ iv wr => ∃ i : Nat, i ≤ n ∧ iv = .int .i64 i ∧ Hid (∀ j, j < i → (b j).nm ≠ s) ∧ Below w.heap.size w wr) (fun _ iv _ => n - (intOf iv).toNat)
  case atStart => exact ⟨0, Nat.zero_le _, rfl, hid (fun j hj => absurd hj (Nat.not_lt_zero _)), Below.refl _ _⟩
  case round =>
    obtain ⟨i, hi, rfl, HN, hbel⟩ := hrel
    have hw := h.below hbel
    have hxw := (hbel.cell (p := ⟨gs, 0, none⟩) hg).trans hx
    have hgw := Nat.lt_of_lt_of_le hg hbel.size
    have Hbel := hid hbel
    have Hx := hid hx
    clear hbel hx
    by_cases hlt : i < n
    · obtain ⟨ad, hA, hl, q0, q1, q2, q3, q4, q5, q6, q7⟩ := hw.at_ i hlt
      subst hA
      by_cases hc : (b i).nm = s
      · have hd := str_t hc
        have HE := hid (show Ixn n (fun i => (b i).nm) s (i : Int) from .inr ⟨i, hlt, HN.out, hc, rfl⟩)
        clear hc
        go_wp2_with fail
        refine (isNmL_any (b i) true hd hxw hgw).mono ?_
        rintro e w2 ⟨rfl, hb⟩
        have HB := hid (Hbel.out.trans (hb.mono Hbel.out.size))
        clear hb hxw q0 q1 q2 q3 q4 q5 q6 q7 hd
        go_wp2
        go_ret
        exact ⟨_, rfl, HE, HB.out⟩
      · have hd := str_f hc
        have HN2 := hid (show ∀ j, j < i + 1 → (b j).nm ≠ s from fun j hj => by
          by_cases e : j = i
          · subst e; exact hc
          · exact HN.out j (by omega))
        clear hc
        go_wp2_with fail
        refine (isNmL_any (b i) false hd hxw hgw).mono ?_
        rintro e w2 ⟨rfl, hb⟩
        have HB := hid (Hbel.out.trans (hb.mono Hbel.out.size))
        clear hb hxw q0 q1 q2 q3 q4 q5 q6 q7 hd
        go_wp2
        go_roundw
        case rel => exact ⟨i + 1, by omega, by go_num, HN2, HB.out⟩
        case measure => simp [intOf]; omega
    · obtain rfl : i = n := by omega
      have HE := hid (show Ixn i (fun i => (b i).nm) s (-1) from .inl ⟨rfl, HN.out⟩)
      clear hxw
      go_wp2
      go_ret
      exact ⟨_, rfl, HE, Hbel.out⟩

set_option maxRecDepth 100000 in
set_option maxHeartbeats 4000000 in
theorem findBasin_any {w : World} {B0 : Nat} {N : Nd} (s : ByteArray) (h : Nt w B0 N) (hn : N.n ≤ 1000) :
    Calls Try.prog 70 #[.agg #[.slice N.A N.n N.c, .slice N.M N.m N.d, .slice N.K N.k N.e], .string s] w fun e w' => ∃ r : Int, e = .returned (.int .i64 r) ∧ Hid (Ixn N.n N.bnm s r) ∧ Below w.heap.size w w' := by
  obtain ⟨g, hg⟩ : ∃ g, w.heap.size = g := ⟨_, rfl⟩
  have hb0 := ((Below.refl w.heap.size w).alloc (Nat.le_refl _) (.cells #[.slice N.A N.n N.c, .slice N.M N.m N.d, .slice N.K N.k N.e] 26)).alloc (by simp) (.cells #[.string s] 9)
  have K1 := (Nb.new h hg).below (alo (o := .cells #[.string s] 9))
  have j2 : Bk _ (g + 1) _ := Bk.of_alloc (w.alloc (.cells #[.slice N.A N.n N.c, .slice N.M N.m N.d, .slice N.K N.k N.e] 26)) (.cells #[.string s] 9) (by simp [hg])
  go_enter Try.func70, Try.ntmps70
  go_wp2_with fail
  generalize (w.alloc (.cells #[.slice N.A N.n N.c, .slice N.M N.m N.d, .slice N.K N.k N.e] 26)).alloc (.cells #[.string s] 9) = W0 at *
  have HB0 := hid hb0
  have Hh := hid h
  have Hg := hid hg
  clear hb0 h hg
  refine (IxBasin_any K1.a.b hn j2.c1 j2.lt).mono ?_
  rintro e w2 ⟨r, rfl, hr, hb⟩
  have HB := hid (bthen HB0.out hb (Nat.le_refl _))
  clear hb j2 K1
  go_wp2
  go_ret
  exact ⟨_, rfl, hr, HB.out⟩

set_option maxRecDepth 100000 in
set_option maxHeartbeats 4000000 in
theorem findLink_any {w : World} {B0 : Nat} {N : Nd} (s : ByteArray) (h : Nt w B0 N) (hn : N.k ≤ 1000) :
    Calls Try.prog 56 #[.agg #[.slice N.A N.n N.c, .slice N.M N.m N.d, .slice N.K N.k N.e], .string s] w fun e w' => ∃ r : Int, e = .returned (.int .i64 r) ∧ Hid (Ixn N.k N.lnm s r) ∧ Below w.heap.size w w' := by
  obtain ⟨g, hg⟩ : ∃ g, w.heap.size = g := ⟨_, rfl⟩
  have hb0 := ((Below.refl w.heap.size w).alloc (Nat.le_refl _) (.cells #[.slice N.A N.n N.c, .slice N.M N.m N.d, .slice N.K N.k N.e] 26)).alloc (by simp) (.cells #[.string s] 9)
  have K1 := (Nb.new h hg).below (alo (o := .cells #[.string s] 9))
  have j2 : Bk _ (g + 1) _ := Bk.of_alloc (w.alloc (.cells #[.slice N.A N.n N.c, .slice N.M N.m N.d, .slice N.K N.k N.e] 26)) (.cells #[.string s] 9) (by simp [hg])
  go_enter Try.func56, Try.ntmps56
  go_wp2_with fail
  generalize (w.alloc (.cells #[.slice N.A N.n N.c, .slice N.M N.m N.d, .slice N.K N.k N.e] 26)).alloc (.cells #[.string s] 9) = W0 at *
  have HB0 := hid hb0
  have Hh := hid h
  have Hg := hid hg
  clear hb0 h hg
  refine (IxLink_any K1.a.l hn j2.c1 j2.lt).mono ?_
  rintro e w2 ⟨r, rfl, hr, hb⟩
  have HB := hid (bthen HB0.out hb (Nat.le_refl _))
  clear hb j2 K1
  go_wp2
  go_ret
  exact ⟨_, rfl, hr, HB.out⟩

set_option maxRecDepth 100000 in
set_option maxHeartbeats 4000000 in
theorem rBasin_any {w : World} {B0 : Nat} {N : Nd} (s : ByteArray) (h : Nt w B0 N) (hn : N.n ≤ 1000) :
    Calls Try.prog 40 #[.agg #[.slice N.A N.n N.c, .slice N.M N.m N.d, .slice N.K N.k N.e], .string s] w fun e w' => ∃ r : Int, e = .returned (.int .i64 r) ∧ Hid (Ixn N.n N.bnm s r) ∧ Below w.heap.size w w' := by
  obtain ⟨g, hg⟩ : ∃ g, w.heap.size = g := ⟨_, rfl⟩
  have hb0 := alo (W := w) (o := .cells #[.slice N.A N.n N.c, .slice N.M N.m N.d, .slice N.K N.k N.e] 26)
  have K1 := Nb.new h hg
  go_enter Try.func40, Try.ntmps40
  go_wp2_with fail
  generalize w.alloc (.cells #[.slice N.A N.n N.c, .slice N.M N.m N.d, .slice N.K N.k N.e] 26) = W0 at *
  have HB0 := hid hb0
  have Hh := hid h
  have Hg := hid hg
  clear hb0 h hg
  go_loopw [5] (fun iv wr => ∃ i : Nat, i ≤ N.n ∧ iv = .int .i64 i ∧ Hid (∀ j, j < i → N.bnm j ≠ s) ∧ Below W0.heap.size W0 wr) (fun iv _ => N.n - (intOf iv).toNat)
  case atStart => exact ⟨0, Nat.zero_le _, rfl, hid (fun j hj => absurd hj (Nat.not_lt_zero _)), Below.refl _ _⟩
  case round =>
    obtain ⟨i, hi, rfl, HN, hbel⟩ := hrel
    have K2 := K1.below hbel
    have HB := hid (bthen HB0.out hbel (Nat.le_refl _))
    have Hbel := hid hbel
    clear hbel
    obtain ⟨x0, x1, x2⟩ := K2.cells
    by_cases hlt : i < N.n
    · obtain ⟨ad, hA, hl, q0, q1, q2, -⟩ := K2.a.b.at_ i hlt
      rw [hA] at x0
      have HA := hid hA
      clear hA
      by_cases hc : (N.b i).nm = s
      · have hd := str_t hc
        have HE := hid (show Ixn N.n N.bnm s (i : Int) from .inr ⟨i, hlt, HN.out, hc, rfl⟩)
        clear hc
        go_wp2
        go_ret
        exact ⟨_, rfl, HE, HB.out⟩
      · have hd := str_f hc
        have HN2 := hid (show ∀ j, j < i + 1 → N.bnm j ≠ s from fun j hj => by
          by_cases e : j = i
          · subst e; exact hc
          · exact HN.out j (by omega))
        clear hc
        go_wp2
        go_roundw
        case rel => exact ⟨i + 1, by omega, by go_num, HN2, Hbel.out⟩
        case measure => simp [intOf]; omega
    · have e : i = N.n := by omega
      have HE := hid (show Ixn N.n N.bnm s (-1) from .inl ⟨rfl, by rw [← e]; exact HN.out⟩)
      have hd : decide ((i : Int) < (N.n : Int)) = false := decide_eq_false (by omega)
      clear e
      go_wp2
      go_ret
      exact ⟨_, rfl, HE, HB.out⟩

set_option maxRecDepth 100000 in
set_option maxHeartbeats 4000000 in
theorem rLink_any {w : World} {B0 : Nat} {N : Nd} (s : ByteArray) (h : Nt w B0 N) (hn : N.k ≤ 1000) :
    Calls Try.prog 21 #[.agg #[.slice N.A N.n N.c, .slice N.M N.m N.d, .slice N.K N.k N.e], .string s] w fun e w' => ∃ r : Int, e = .returned (.int .i64 r) ∧ Hid (Ixn N.k N.lnm s r) ∧ Below w.heap.size w w' := by
  obtain ⟨g, hg⟩ : ∃ g, w.heap.size = g := ⟨_, rfl⟩
  have hb0 := alo (W := w) (o := .cells #[.slice N.A N.n N.c, .slice N.M N.m N.d, .slice N.K N.k N.e] 26)
  have K1 := Nb.new h hg
  go_enter Try.func21, Try.ntmps21
  go_wp2_with fail
  generalize w.alloc (.cells #[.slice N.A N.n N.c, .slice N.M N.m N.d, .slice N.K N.k N.e] 26) = W0 at *
  have HB0 := hid hb0
  have Hh := hid h
  have Hg := hid hg
  clear hb0 h hg
  go_loopw [5] (fun iv wr => ∃ i : Nat, i ≤ N.k ∧ iv = .int .i64 i ∧ Hid (∀ j, j < i → N.lnm j ≠ s) ∧ Below W0.heap.size W0 wr) (fun iv _ => N.k - (intOf iv).toNat)
  case atStart => exact ⟨0, Nat.zero_le _, rfl, hid (fun j hj => absurd hj (Nat.not_lt_zero _)), Below.refl _ _⟩
  case round =>
    obtain ⟨i, hi, rfl, HN, hbel⟩ := hrel
    have K2 := K1.below hbel
    have HB := hid (bthen HB0.out hbel (Nat.le_refl _))
    have Hbel := hid hbel
    clear hbel
    obtain ⟨x0, x1, x2⟩ := K2.cells
    by_cases hlt : i < N.k
    · obtain ⟨ad, hA, hl, q0, q1, q2, q3, q4, q5, q6, q7⟩ := K2.a.l.at_ i hlt
      rw [hA] at x2
      have HA := hid hA
      clear hA
      by_cases hc : (N.l i).nm = s
      · have hd := str_t hc
        have HE := hid (show Ixn N.k N.lnm s (i : Int) from .inr ⟨i, hlt, HN.out, hc, rfl⟩)
        clear hc
        go_wp2
        go_ret
        exact ⟨_, rfl, HE, HB.out⟩
      · have hd := str_f hc
        have HN2 := hid (show ∀ j, j < i + 1 → N.lnm j ≠ s from fun j hj => by
          by_cases e : j = i
          · subst e; exact hc
          · exact HN.out j (by omega))
        clear hc
        go_wp2
        go_roundw
        case rel => exact ⟨i + 1, by omega, by go_num, HN2, Hbel.out⟩
        case measure => simp [intOf]; omega
    · have e : i = N.k := by omega
      have HE := hid (show Ixn N.k N.lnm s (-1) from .inl ⟨rfl, by rw [← e]; exact HN.out⟩)
      have hd : decide ((i : Int) < (N.k : Int)) = false := decide_eq_false (by omega)
      clear e
      go_wp2
      go_ret
      exact ⟨_, rfl, HE, HB.out⟩

end Go.Proofs.Ytndcopljjnbkbaa
