/- Words for networks in memory: basins, links; findBasin and findLink, Basin and Link of the reference. For all lists. Networks: finding basins and links by their names; isEnd, side. For all networks. Networks: the error of a link: isEnd, endsError, rateError; side, checkLink. For all networks and links. -/
import Derived.Test.YtockfiobhmohnaaGa
import Derived.Test.YtockfiobhmohnaaGb
namespace Go.Proofs.Ytockfiobhmohnaa
open Go.RowKit Kb Wb

/-- A basin that came in. -/
structure Bd where
  nm : ByteArray
  A : Option Addr
  n : Nat
  c : Nat
  rim : Int
  F : Nat → Int
  S : Nat → Int
/-- A link that came in. -/
structure Ld where
  nm : ByteArray
  kind : Int
  fr : ByteArray
  tw : ByteArray
  sill : Int
  rate : Int
  fac : Int
  lift : Int
/-- The slice at A reads as n basins. -/
structure Bl (w : World) (B0 : Nat) (A : Option Addr) (n : Nat) (b : Nat → Bd) : Prop where
  at_ : ∀ i, i < n → ∃ ad, A = some ad ∧ ad.block < B0 ∧ w.cell? (ad.add (i * 3)) = some (.string (b i).nm) ∧ w.cell? ⟨(ad.add (i * 3)).block, (ad.add (i * 3)).off + 1, none⟩ = some (.slice (b i).A (b i).n (b i).c) ∧ w.cell? ⟨(ad.add (i * 3)).block, (ad.add (i * 3)).off + 2, none⟩ = some (.int .i64 (b i).rim) ∧ Pa w B0 (b i).A (b i).n (b i).F (b i).S ∧ (b i).n ≤ (b i).c ∧ (b i).c ≤ maxLen
  le : B0 ≤ w.heap.size
/-- The slice at A reads as n links. -/
structure Ll (w : World) (B0 : Nat) (A : Option Addr) (n : Nat) (l : Nat → Ld) : Prop where
  at_ : ∀ i, i < n → ∃ ad, A = some ad ∧ ad.block < B0 ∧ w.cell? (ad.add (i * 8)) = some (.string (l i).nm) ∧ w.cell? ⟨(ad.add (i * 8)).block, (ad.add (i * 8)).off + 1, none⟩ = some (.int .i64 (l i).kind) ∧ w.cell? ⟨(ad.add (i * 8)).block, (ad.add (i * 8)).off + 2, none⟩ = some (.string (l i).fr) ∧ w.cell? ⟨(ad.add (i * 8)).block, (ad.add (i * 8)).off + 3, none⟩ = some (.string (l i).tw) ∧ w.cell? ⟨(ad.add (i * 8)).block, (ad.add (i * 8)).off + 4, none⟩ = some (.int .i64 (l i).sill) ∧ w.cell? ⟨(ad.add (i * 8)).block, (ad.add (i * 8)).off + 5, none⟩ = some (.int .i64 (l i).rate) ∧ w.cell? ⟨(ad.add (i * 8)).block, (ad.add (i * 8)).off + 6, none⟩ = some (.int .i64 (l i).fac) ∧ w.cell? ⟨(ad.add (i * 8)).block, (ad.add (i * 8)).off + 7, none⟩ = some (.int .i64 (l i).lift)
  le : B0 ≤ w.heap.size
section
variable {w w' : World} {B0 n : Nat} {A : Option Addr}
theorem Bl.below {b : Nat → Bd} (h : Bl w B0 A n b) (hb : Below w.heap.size w w') : Bl w' B0 A n b :=
  ⟨fun i hi => by
    obtain ⟨ad, e, h1, h2, h3, h4, h5, h6, h7⟩ := h.at_ i hi
    have l := Nat.lt_of_lt_of_le h1 h.le
    exact ⟨ad, e, h1, (hb.cell (p := ad.add (i * 3)) (in_add l)).trans h2, (hb.cell (p := ⟨(ad.add (i * 3)).block, (ad.add (i * 3)).off + 1, none⟩) (in_add l)).trans h3, (hb.cell (p := ⟨(ad.add (i * 3)).block, (ad.add (i * 3)).off + 2, none⟩) (in_add l)).trans h4, h5.below hb, h6, h7⟩, Nat.le_trans h.le hb.size⟩
theorem Ll.below {l : Nat → Ld} (h : Ll w B0 A n l) (hb : Below w.heap.size w w') : Ll w' B0 A n l :=
  ⟨fun i hi => by
    obtain ⟨ad, e, h1, h2, h3, h4, h5, h6, h7, h8, h9⟩ := h.at_ i hi
    have l := Nat.lt_of_lt_of_le h1 h.le
    exact ⟨ad, e, h1, (hb.cell (p := ad.add (i * 8)) (in_add l)).trans h2, (hb.cell (p := ⟨(ad.add (i * 8)).block, (ad.add (i * 8)).off + 1, none⟩) (in_add l)).trans h3, (hb.cell (p := ⟨(ad.add (i * 8)).block, (ad.add (i * 8)).off + 2, none⟩) (in_add l)).trans h4, (hb.cell (p := ⟨(ad.add (i * 8)).block, (ad.add (i * 8)).off + 3, none⟩) (in_add l)).trans h5, (hb.cell (p := ⟨(ad.add (i * 8)).block, (ad.add (i * 8)).off + 4, none⟩) (in_add l)).trans h6, (hb.cell (p := ⟨(ad.add (i * 8)).block, (ad.add (i * 8)).off + 5, none⟩) (in_add l)).trans h7, (hb.cell (p := ⟨(ad.add (i * 8)).block, (ad.add (i * 8)).off + 6, none⟩) (in_add l)).trans h8, (hb.cell (p := ⟨(ad.add (i * 8)).block, (ad.add (i * 8)).off + 7, none⟩) (in_add l)).trans h9⟩, Nat.le_trans h.le hb.size⟩
end
theorem tl_eq (s : ByteArray) : s.toList = bl s := ByteArray.toList_eq s
theorem bl_inj {s t : ByteArray} (h : bl s = bl t) : s = t := by
  cases s; cases t
  simp only [bl] at h
  congr 1
  exact Array.toList_inj.1 h
theorem str_t {s t : ByteArray} (h : s = t) : (s.toList == t.toList) = true := by rw [beq_iff_eq, h]
theorem str_f {s t : ByteArray} (h : s ≠ t) : (s.toList == t.toList) = false := by
  rw [beq_eq_false_iff_ne]
  exact fun e => h (bl_inj (by rw [← tl_eq, ← tl_eq]; exact e))
/-- The empty text. -/
abbrev s0 : ByteArray := ⟨#[]⟩
theorem emp_t {s : ByteArray} (h : s = s0) : s.toList.isEmpty = true := by subst h; rw [tl_eq]; rfl
theorem emp_f {s : ByteArray} (h : s ≠ s0) : s.toList.isEmpty = false := by
  rw [List.isEmpty_eq_false_iff, tl_eq]
  exact fun e => h (bl_inj e)

/-- r is the place of the first of n names that is s, or -1. -/
def Ixn (n : Nat) (nm : Nat → ByteArray) (s : ByteArray) (r : Int) : Prop := (r = -1 ∧ ∀ j, j < n → nm j ≠ s) ∨ ∃ j : Nat, j < n ∧ (∀ k, k < j → nm k ≠ s) ∧ nm j = s ∧ r = j
theorem Ixn.same {n : Nat} {nm : Nat → ByteArray} {s : ByteArray} {r q : Int} (h : Ixn n nm s r) (k : Ixn n nm s q) : r = q := by
  rcases h with ⟨rfl, h⟩ | ⟨i, hi, h1, h2, rfl⟩ <;> rcases k with ⟨rfl, k⟩ | ⟨j, hj, k1, k2, rfl⟩
  · rfl
  · exact absurd k2 (h j hj)
  · exact absurd h2 (k i hi)
  · rcases Nat.lt_trichotomy i j with e | e | e
    · exact absurd h2 (k1 i e)
    · subst e; rfl
    · exact absurd k2 (h1 j e)
theorem Ixn.ge {n : Nat} {nm : Nat → ByteArray} {s : ByteArray} {r : Int} (h : Ixn n nm s r) : -1 ≤ r ∧ r < (n : Int) ∨ (r = -1 ∧ n = 0) := by
  rcases h with ⟨rfl, _⟩ | ⟨j, hj, _, _, rfl⟩
  · by_cases h : n = 0
    · exact .inr ⟨rfl, h⟩
    · exact .inl ⟨by omega, by omega⟩
  · exact .inl ⟨by omega, by omega⟩

set_option maxRecDepth 100000 in
theorem isNmB_any {w : World} {gs : Nat} {s : ByteArray} (b : Bd) (p : Bool) (hp : (b.nm.toList == s.toList) = p) (hx : w.cell? ⟨gs, 0, none⟩ = some (.string s)) (hg : gs < w.heap.size) :
    Calls Try.prog 74 #[.agg #[.string b.nm, .slice b.A b.n b.c, .int .i64 b.rim], .pointer (some ⟨gs, 0, none⟩)] w fun e w' => e = .returned (.bool p) ∧ Below w.heap.size w w' := by
  have hb := alo (W := w) (o := (.cells #[.string b.nm, .slice b.A b.n b.c, .int .i64 b.rim] 53))
  have hx' := (hb.cell (p := ⟨gs, 0, none⟩) hg).trans hx
  have jb := (Bk.of_alloc w (.cells #[.string b.nm, .slice b.A b.n b.c, .int .i64 b.rim] 53) rfl).c3
  go_enter Try.func74, Try.ntmps74
  go_wp2
  go_ret
  exact ⟨rfl, hb⟩

set_option maxRecDepth 100000 in
set_option maxHeartbeats 4000000 in
theorem IxBasin_any {w : World} {B0 n c gs : Nat} {A : Option Addr} {b : Nat → Bd} {s : ByteArray} (h : Bl w B0 A n b) (hn : n ≤ 1000) (hx : w.cell? ⟨gs, 0, none⟩ = some (.string s)) (hg : gs < w.heap.size) :
    Calls Try.prog 73 #[.slice A n c, .func (.func 74) #[] #[.pointer (some ⟨gs, 0, none⟩)]] w fun e w' => ∃ r : Int, e = .returned (.int .i64 r) ∧ Hid (Ixn n (fun i => (b i).nm) s r) ∧ Below w.heap.size w w' := by
  go_enter Try.func73, Try.ntmps73
  go_wp2_with fail
  go_loopw [5, 8] (fun _ iv wr => ∃ i : Nat, i ≤ n ∧ iv = .int .i64 i ∧ Hid (∀ j, j < i → (b j).nm ≠ s) ∧ Below w.heap.size w wr) (fun _ iv _ => n - (intOf iv).toNat)
  case atStart => exact ⟨0, Nat.zero_le _, rfl, hid (fun j hj => absurd hj (Nat.not_lt_zero _)), Below.refl _ _⟩
  case round =>
    obtain ⟨i, hi, rfl, HN, hbel⟩ := hrel
    have hw := h.below hbel
    have hxw := (hbel.cell (p := ⟨gs, 0, none⟩) hg).trans hx
    have hgw := Nat.lt_of_lt_of_le hg hbel.size
    have Hbel := hid hbel
    have Hx := hid hx
    clear hbel hx
    by_cases hlt : i < n
    · obtain ⟨ad, hA, hl, q0, q1, q2, -⟩ := hw.at_ i hlt
      subst hA
      by_cases hc : (b i).nm = s
      · have hd := str_t hc
        have HE := hid (show Ixn n (fun i => (b i).nm) s (i : Int) from .inr ⟨i, hlt, HN.out, hc, rfl⟩)
        clear hc
        go_wp2_with fail
        refine (isNmB_any (b i) true hd hxw hgw).mono ?_
        rintro e w2 ⟨rfl, hb⟩
        have HB := hid (Hbel.out.trans (hb.mono Hbel.out.size))
        clear hb hxw q0 q1 q2 hd
        go_wp2
        go_ret
        exact ⟨_, rfl, HE, HB.out⟩
      · have hd := str_f hc
        have HN2 := hid (show ∀ j, j < i + 1 → (b j).nm ≠ s from fun j hj => by
          by_cases e : j = i
          · subst e; exact hc
          · exact HN.out j (by omega))
        clear hc
        go_wp2_with fail
        refine (isNmB_any (b i) false hd hxw hgw).mono ?_
        rintro e w2 ⟨rfl, hb⟩
        have HB := hid (Hbel.out.trans (hb.mono Hbel.out.size))
        clear hb hxw q0 q1 q2 hd
        go_wp2
        go_roundw
        case rel => exact ⟨i + 1, by omega, by go_num, HN2, HB.out⟩
        case measure => simp [intOf]; omega
    · obtain rfl : i = n := by omega
      have HE := hid (show Ixn i (fun i => (b i).nm) s (-1) from .inl ⟨rfl, HN.out⟩)
      clear hxw
      go_wp2
      go_ret
      exact ⟨_, rfl, HE, Hbel.out⟩

end Go.Proofs.Ytockfiobhmohnaa

namespace Go.Proofs.Ytockfiobhmohnaa
open Go.RowKit Kb Wb

/-- A network that came in: basins, marks, links. -/
structure Nd where
  A : Option Addr
  n : Nat
  c : Nat
  b : Nat → Bd
  M : Option Addr
  m : Nat
  d : Nat
  F : Nat → Int
  L : Nat → Int
  K : Option Addr
  k : Nat
  e : Nat
  l : Nat → Ld
structure Nt (w : World) (B0 : Nat) (N : Nd) : Prop where
  b : Bl w B0 N.A N.n N.b
  s : Pa w B0 N.M N.m N.F N.L
  l : Ll w B0 N.K N.k N.l
  nc : N.n ≤ N.c
  cm : N.c ≤ maxLen
  md : N.m ≤ N.d
  dm : N.d ≤ maxLen
  ke : N.k ≤ N.e
  em : N.e ≤ maxLen
theorem Nt.below {w w' : World} {B0 : Nat} {N : Nd} (h : Nt w B0 N) (hb : Below w.heap.size w w') : Nt w' B0 N :=
  ⟨h.b.below hb, h.s.below hb, h.l.below hb, h.nc, h.cm, h.md, h.dm, h.ke, h.em⟩
/-- A network in a box. -/
structure Nb (w : World) (g : Nat) (B0 : Nat) (N : Nd) : Prop where
  b : Bk w g (.cells #[.slice N.A N.n N.c, .slice N.M N.m N.d, .slice N.K N.k N.e] 26)
  a : Nt w B0 N
section
variable {w w' : World} {g B0 : Nat} {N : Nd}
theorem Nb.below (h : Nb w g B0 N) (hb : Below w.heap.size w w') : Nb w' g B0 N := ⟨h.b.step hb, h.a.below hb⟩
theorem Nb.cells (h : Nb w g B0 N) : w.cell? ⟨g, 0, none⟩ = some (.slice N.A N.n N.c) ∧ w.cell? ⟨g, 1, none⟩ = some (.slice N.M N.m N.d) ∧ w.cell? ⟨g, 2, none⟩ = some (.slice N.K N.k N.e) := h.b.c3
theorem Nb.new (h : Nt w B0 N) (hg : w.heap.size = g) : Nb (w.alloc (.cells #[.slice N.A N.n N.c, .slice N.M N.m N.d, .slice N.K N.k N.e] 26)) g B0 N := ⟨Bk.of_alloc w _ hg, h.below alo⟩
end
abbrev Nd.bnm (N : Nd) (i : Nat) : ByteArray := (N.b i).nm
abbrev Nd.lnm (N : Nd) (i : Nat) : ByteArray := (N.l i).nm

set_option maxRecDepth 100000 in
theorem isNmL_any {w : World} {gs : Nat} {s : ByteArray} (b : Ld) (p : Bool) (hp : (b.nm.toList == s.toList) = p) (hx : w.cell? ⟨gs, 0, none⟩ = some (.string s)) (hg : gs < w.heap.size) :
    Calls Try.prog 80 #[.agg #[.string b.nm, .int .i64 b.kind, .string b.fr, .string b.tw, .int .i64 b.sill, .int .i64 b.rate, .int .i64 b.fac, .int .i64 b.lift], .pointer (some ⟨gs, 0, none⟩)] w fun e w' => e = .returned (.bool p) ∧ Below w.heap.size w w' := by
  have hb := alo (W := w) (o := (.cells #[.string b.nm, .int .i64 b.kind, .string b.fr, .string b.tw, .int .i64 b.sill, .int .i64 b.rate, .int .i64 b.fac, .int .i64 b.lift] 49))
  have hx' := (hb.cell (p := ⟨gs, 0, none⟩) hg).trans hx
  have jb := cell_of_row _ _ 0 _ _ _ (Bk.of_alloc w (.cells #[.string b.nm, .int .i64 b.kind, .string b.fr, .string b.tw, .int .i64 b.sill, .int .i64 b.rate, .int .i64 b.fac, .int .i64 b.lift] 49) rfl)
  go_enter Try.func80, Try.ntmps80
  go_wp2
  go_ret
  exact ⟨rfl, hb⟩

set_option maxRecDepth 100000 in
set_option maxHeartbeats 4000000 in
theorem IxLink_any {w : World} {B0 n c gs : Nat} {A : Option Addr} {b : Nat → Ld} {s : ByteArray} (h : Ll w B0 A n b) (hn : n ≤ 1000) (hx : w.cell? ⟨gs, 0, none⟩ = some (.string s)) (hg : gs < w.heap.size) :
    Calls Try.prog 79 #[.slice A n c, .func (.func 80) #[] #[.pointer (some ⟨gs, 0, none⟩)]] w fun e w' => ∃ r : Int, e = .returned (.int .i64 r) ∧ Hid (Ixn n (fun i => (b i).nm) s r) ∧ Below w.heap.size w w' := by
  go_enter Try.func79, Try.ntmps79
  go_wp2_with fail
  go_loopw [5, 8] (fun _ iv wr => ∃ i : Nat, i ≤ n ∧ iv = .int .i64 i ∧ Hid (∀ j, j < i → (b j).nm ≠ s) ∧ Below w.heap.size w wr) (fun _ iv _ => n - (intOf iv).toNat)
  case atStart => exact ⟨0, Nat.zero_le _, rfl, hid (fun j hj => absurd hj (Nat.not_lt_zero _)), Below.refl _ _⟩
  case round =>
    obtain ⟨i, hi, rfl, HN, hbel⟩ := hrel
    have hw := h.below hbel
    have hxw := (hbel.cell (p := ⟨gs, 0, none⟩) hg).trans hx
    have hgw := Nat.lt_of_lt_of_le hg hbel.size
    have Hbel := hid hbel
    have Hx := hid hx
    clear hbel hx
    by_cases hlt : i < n
    · obtain ⟨ad, hA, hl, q0, q1, q2, q3, q4, q5, q6, q7⟩ := hw.at_ i hlt
      subst hA
      by_cases hc : (b i).nm = s
      · have hd := str_t hc
        have HE := hid (show Ixn n (fun i => (b i).nm) s (i : Int) from .inr ⟨i, hlt, HN.out, hc, rfl⟩)
        clear hc
        go_wp2_with fail
        refine (isNmL_any (b i) true hd hxw hgw).mono ?_
        rintro e w2 ⟨rfl, hb⟩
        have HB := hid (Hbel.out.trans (hb.mono Hbel.out.size))
        clear hb hxw q0 q1 q2 q3 q4 q5 q6 q7 hd
        go_wp2
        go_ret
        exact ⟨_, rfl, HE, HB.out⟩
      · have hd := str_f hc
        have HN2 := hid (show ∀ j, j < i + 1 → (b j).nm ≠ s from fun j hj => by
          by_cases e : j = i
          · subst e; exact hc
          · exact HN.out j (by omega))
        clear hc
        go_wp2_with fail
        refine (isNmL_any (b i) false hd hxw hgw).mono ?_
        rintro e w2 ⟨rfl, hb⟩
        have HB := hid (Hbel.out.trans (hb.mono Hbel.out.size))
        clear hb hxw q0 q1 q2 q3 q4 q5 q6 q7 hd
        go_wp2
        go_roundw
        case rel => exact ⟨i + 1, by omega, by go_num, HN2, HB.out⟩
        case measure => simp [intOf]; omega
    · obtain rfl : i = n := by omega
      have HE := hid (show Ixn i (fun i => (b i).nm) s (-1) from .inl ⟨rfl, HN.out⟩)
      clear hxw
      go_wp2
      go_ret
      exact ⟨_, rfl, HE, Hbel.out⟩

set_option maxRecDepth 100000 in
set_option maxHeartbeats 4000000 in
theorem findBasin_any {w : World} {B0 : Nat} {N : Nd} (s : ByteArray) (h : Nt w B0 N) (hn : N.n ≤ 1000) :
    Calls Try.prog 48 #[.agg #[.slice N.A N.n N.c, .slice N.M N.m N.d, .slice N.K N.k N.e], .string s] w fun e w' => ∃ r : Int, e = .returned (.int .i64 r) ∧ Hid (Ixn N.n N.bnm s r) ∧ Below w.heap.size w w' := by
  obtain ⟨g, hg⟩ : ∃ g, w.heap.size = g := ⟨_, rfl⟩
  have hb0 := ((Below.refl w.heap.size w).alloc (Nat.le_refl _) (.cells #[.slice N.A N.n N.c, .slice N.M N.m N.d, .slice N.K N.k N.e] 26)).alloc (by simp) (.cells #[.string s] 9)
  have K1 := (Nb.new h hg).below (alo (o := .cells #[.string s] 9))
  have j2 : Bk _ (g + 1) _ := Bk.of_alloc (w.alloc (.cells #[.slice N.A N.n N.c, .slice N.M N.m N.d, .slice N.K N.k N.e] 26)) (.cells #[.string s] 9) (by simp [hg])
  go_enter Try.func48, Try.ntmps48
  go_wp2_with fail
  generalize (w.alloc (.cells #[.slice N.A N.n N.c, .slice N.M N.m N.d, .slice N.K N.k N.e] 26)).alloc (.cells #[.string s] 9) = W0 at *
  have HB0 := hid hb0
  have Hh := hid h
  have Hg := hid hg
  clear hb0 h hg
  refine (IxBasin_any K1.a.b hn j2.c1 j2.lt).mono ?_
  rintro e w2 ⟨r, rfl, hr, hb⟩
  have HB := hid (bthen HB0.out hb (Nat.le_refl _))
  clear hb j2 K1
  go_wp2
  go_ret
  exact ⟨_, rfl, hr, HB.out⟩

set_option maxRecDepth 100000 in
set_option maxHeartbeats 4000000 in
theorem findLink_any {w : World} {B0 : Nat} {N : Nd} (s : ByteArray) (h : Nt w B0 N) (hn : N.k ≤ 1000) :
    Calls Try.prog 62 #[.agg #[.slice N.A N.n N.c, .slice N.M N.m N.d, .slice N.K N.k N.e], .string s] w fun e w' => ∃ r : Int, e = .returned (.int .i64 r) ∧ Hid (Ixn N.k N.lnm s r) ∧ Below w.heap.size w w' := by
  obtain ⟨g, hg⟩ : ∃ g, w.heap.size = g := ⟨_, rfl⟩
  have hb0 := ((Below.refl w.heap.size w).alloc (Nat.le_refl _) (.cells #[.slice N.A N.n N.c, .slice N.M N.m N.d, .slice N.K N.k N.e] 26)).alloc (by simp) (.cells #[.string s] 9)
  have K1 := (Nb.new h hg).below (alo (o := .cells #[.string s] 9))
  have j2 : Bk _ (g + 1) _ := Bk.of_alloc (w.alloc (.cells #[.slice N.A N.n N.c, .slice N.M N.m N.d, .slice N.K N.k N.e] 26)) (.cells #[.string s] 9) (by simp [hg])
  go_enter Try.func62, Try.ntmps62
  go_wp2_with fail
  generalize (w.alloc (.cells #[.slice N.A N.n N.c, .slice N.M N.m N.d, .slice N.K N.k N.e] 26)).alloc (.cells #[.string s] 9) = W0 at *
  have HB0 := hid hb0
  have Hh := hid h
  have Hg := hid hg
  clear hb0 h hg
  refine (IxLink_any K1.a.l hn j2.c1 j2.lt).mono ?_
  rintro e w2 ⟨r, rfl, hr, hb⟩
  have HB := hid (bthen HB0.out hb (Nat.le_refl _))
  clear hb j2 K1
  go_wp2
  go_ret
  exact ⟨_, rfl, hr, HB.out⟩

set_option maxRecDepth 100000 in
set_option maxHeartbeats 4000000 in
theorem rBasin_any {w : World} {B0 : Nat} {N : Nd} (s : ByteArray) (h : Nt w B0 N) (hn : N.n ≤ 1000) :
    Calls Try.prog 28 #[.agg #[.slice N.A N.n N.c, .slice N.M N.m N.d, .slice N.K N.k N.e], .string s] w fun e w' => ∃ r : Int, e = .returned (.int .i64 r) ∧ Hid (Ixn N.n N.bnm s r) ∧ Below w.heap.size w w' := by
  obtain ⟨g, hg⟩ : ∃ g, w.heap.size = g := ⟨_, rfl⟩
  have hb0 := alo (W := w) (o := .cells #[.slice N.A N.n N.c, .slice N.M N.m N.d, .slice N.K N.k N.e] 26)
  have K1 := Nb.new h hg
  go_enter Try.func28, Try.ntmps28
  go_wp2_with fail
  generalize w.alloc (.cells #[.slice N.A N.n N.c, .slice N.M N.m N.d, .slice N.K N.k N.e] 26) = W0 at *
  have HB0 := hid hb0
  have Hh := hid h
  have Hg := hid hg
  clear hb0 h hg
  go_loopw [5] (fun iv wr => ∃ i : Nat, i ≤ N.n ∧ iv = .int .i64 i ∧ Hid (∀ j, j < i → N.bnm j ≠ s) ∧ Below W0.heap.size W0 wr) (fun iv _ => N.n - (intOf iv).toNat)
  case atStart => exact ⟨0, Nat.zero_le _, rfl, hid (fun j hj => absurd hj (Nat.not_lt_zero _)), Below.refl _ _⟩
  case round =>
    obtain ⟨i, hi, rfl, HN, hbel⟩ := hrel
    have K2 := K1.below hbel
    have HB := hid (bthen HB0.out hbel (Nat.le_refl _))
    have Hbel := hid hbel
    clear hbel
    obtain ⟨x0, x1, x2⟩ := K2.cells
    by_cases hlt : i < N.n
    · obtain ⟨ad, hA, hl, q0, q1, q2, -⟩ := K2.a.b.at_ i hlt
      rw [hA] at x0
      have HA := hid hA
      clear hA
      by_cases hc : (N.b i).nm = s
      · have hd := str_t hc
        have HE := hid (show Ixn N.n N.bnm s (i : Int) from .inr ⟨i, hlt, HN.out, hc, rfl⟩)
        clear hc
        go_wp2
        go_ret
        exact ⟨_, rfl, HE, HB.out⟩
      · have hd := str_f hc
        have HN2 := hid (show ∀ j, j < i + 1 → N.bnm j ≠ s from fun j hj => by
          by_cases e : j = i
          · subst e; exact hc
          · exact HN.out j (by omega))
        clear hc
        go_wp2
        go_roundw
        case rel => exact ⟨i + 1, by omega, by go_num, HN2, Hbel.out⟩
        case measure => simp [intOf]; omega
    · have e : i = N.n := by omega
      have HE := hid (show Ixn N.n N.bnm s (-1) from .inl ⟨rfl, by rw [← e]; exact HN.out⟩)
      have hd : decide ((i : Int) < (N.n : Int)) = false := decide_eq_false (by omega)
      clear e
      go_wp2
      go_ret
      exact ⟨_, rfl, HE, HB.out⟩

set_option maxRecDepth 100000 in
set_option maxHeartbeats 4000000 in
theorem rLink_any {w : World} {B0 : Nat} {N : Nd} (s : ByteArray) (h : Nt w B0 N) (hn : N.k ≤ 1000) :
    Calls Try.prog 44 #[.agg #[.slice N.A N.n N.c, .slice N.M N.m N.d, .slice N.K N.k N.e], .string s] w fun e w' => ∃ r : Int, e = .returned (.int .i64 r) ∧ Hid (Ixn N.k N.lnm s r) ∧ Below w.heap.size w w' := by
  obtain ⟨g, hg⟩ : ∃ g, w.heap.size = g := ⟨_, rfl⟩
  have hb0 := alo (W := w) (o := .cells #[.slice N.A N.n N.c, .slice N.M N.m N.d, .slice N.K N.k N.e] 26)
  have K1 := Nb.new h hg
  go_enter Try.func44, Try.ntmps44
  go_wp2_with fail
  generalize w.alloc (.cells #[.slice N.A N.n N.c, .slice N.M N.m N.d, .slice N.K N.k N.e] 26) = W0 at *
  have HB0 := hid hb0
  have Hh := hid h
  have Hg := hid hg
  clear hb0 h hg
  go_loopw [5] (fun iv wr => ∃ i : Nat, i ≤ N.k ∧ iv = .int .i64 i ∧ Hid (∀ j, j < i → N.lnm j ≠ s) ∧ Below W0.heap.size W0 wr) (fun iv _ => N.k - (intOf iv).toNat)
  case atStart => exact ⟨0, Nat.zero_le _, rfl, hid (fun j hj => absurd hj (Nat.not_lt_zero _)), Below.refl _ _⟩
  case round =>
    obtain ⟨i, hi, rfl, HN, hbel⟩ := hrel
    have K2 := K1.below hbel
    have HB := hid (bthen HB0.out hbel (Nat.le_refl _))
    have Hbel := hid hbel
    clear hbel
    obtain ⟨x0, x1, x2⟩ := K2.cells
    by_cases hlt : i < N.k
    · obtain ⟨ad, hA, hl, q0, q1, q2, q3, q4, q5, q6, q7⟩ := K2.a.l.at_ i hlt
      rw [hA] at x2
      have HA := hid hA
      clear hA
      by_cases hc : (N.l i).nm = s
      · have hd := str_t hc
        have HE := hid (show Ixn N.k N.lnm s (i : Int) from .inr ⟨i, hlt, HN.out, hc, rfl⟩)
        clear hc
        go_wp2
        go_ret
        exact ⟨_, rfl, HE, HB.out⟩
      · have hd := str_f hc
        have HN2 := hid (show ∀ j, j < i + 1 → N.lnm j ≠ s from fun j hj => by
          by_cases e : j = i
          · subst e; exact hc
          · exact HN.out j (by omega))
        clear hc
        go_wp2
        go_roundw
        case rel => exact ⟨i + 1, by omega, by go_num, HN2, Hbel.out⟩
        case measure => simp [intOf]; omega
    · have e : i = N.k := by omega
      have HE := hid (show Ixn N.k N.lnm s (-1) from .inl ⟨rfl, by rw [← e]; exact HN.out⟩)
      have hd : decide ((i : Int) < (N.k : Int)) = false := decide_eq_false (by omega)
      clear e
      go_wp2
      go_ret
      exact ⟨_, rfl, HE, HB.out⟩

end Go.Proofs.Ytockfiobhmohnaa

namespace Go.Proofs.Ytockfiobhmohnaa
open Go.RowKit Kb Wb

/-- A link in a box. -/
structure Lb (w : World) (g : Nat) (l : Ld) : Prop where
  b : Bk w g (.cells #[.string l.nm, .int .i64 l.kind, .string l.fr, .string l.tw, .int .i64 l.sill, .int .i64 l.rate, .int .i64 l.fac, .int .i64 l.lift] 49)
theorem Lb.below {w w' : World} {g : Nat} {l : Ld} (h : Lb w g l) (hb : Below w.heap.size w w') : Lb w' g l := ⟨h.b.step hb⟩
theorem Lb.cells {w : World} {g : Nat} {l : Ld} (h : Lb w g l) : w.cell? ⟨g, 0, none⟩ = some (.string l.nm) ∧ w.cell? ⟨g, 1, none⟩ = some (.int .i64 l.kind) ∧ w.cell? ⟨g, 2, none⟩ = some (.string l.fr) ∧ w.cell? ⟨g, 3, none⟩ = some (.string l.tw) ∧ w.cell? ⟨g, 4, none⟩ = some (.int .i64 l.sill) ∧ w.cell? ⟨g, 5, none⟩ = some (.int .i64 l.rate) ∧ w.cell? ⟨g, 6, none⟩ = some (.int .i64 l.fac) ∧ w.cell? ⟨g, 7, none⟩ = some (.int .i64 l.lift) := by
  have hh := fun i => cell_of_row w g i _ 49 (0, 0) h.b
  exact ⟨(hh 0).trans rfl, (hh 1).trans rfl, (hh 2).trans rfl, (hh 3).trans rfl, (hh 4).trans rfl, (hh 5).trans rfl, (hh 6).trans rfl, (hh 7).trans rfl⟩

/-- Whether a name is that of a side of links. -/
noncomputable def endB (N : Nd) (s : ByteArray) : Bool := @decide (s = s0 ∨ ∃ j, j < N.n ∧ N.bnm j = s) (Classical.propDecidable _)
theorem endB_t {N : Nd} {s : ByteArray} (h : s = s0 ∨ ∃ j, j < N.n ∧ N.bnm j = s) : endB N s = true := @decide_eq_true _ (Classical.propDecidable _) h
theorem endB_f {N : Nd} {s : ByteArray} (h : ¬ (s = s0 ∨ ∃ j, j < N.n ∧ N.bnm j = s)) : endB N s = false := @decide_eq_false _ (Classical.propDecidable _) h
theorem endB_iff {N : Nd} {s : ByteArray} : endB N s = true ↔ (s = s0 ∨ ∃ j, j < N.n ∧ N.bnm j = s) := @decide_eq_true_iff _ (Classical.propDecidable _)
theorem endB_ix {N : Nd} {s : ByteArray} {r : Int} (h0 : s ≠ s0) (h : Ixn N.n N.bnm s r) : decide (0 ≤ r) = endB N s ∧ -1 ≤ r ∧ r ≤ 1000000000000 ∨ 1000 < N.n := by
  by_cases hn : N.n ≤ 1000
  · refine .inl ?_
    rcases h with ⟨rfl, h⟩ | ⟨j, hj, _, h2, rfl⟩
    · refine ⟨?_, by omega, by omega⟩
      rw [endB_f (fun e => e.elim h0 (fun ⟨j, hj, e⟩ => h j hj e))]
      rfl
    · refine ⟨?_, by omega, by omega⟩
      rw [endB_t (.inr ⟨j, hj, h2⟩)]
      exact decide_eq_true (by omega)
  · exact .inr (by omega)

set_option maxRecDepth 100000 in
set_option maxHeartbeats 4000000 in
theorem isEnd_any {w : World} {B0 : Nat} {N : Nd} (s : ByteArray) (h : Nt w B0 N) (hn : N.n ≤ 1000) :
    Calls Try.prog 109 #[.agg #[.slice N.A N.n N.c, .slice N.M N.m N.d, .slice N.K N.k N.e], .string s] w fun e w' => e = .returned (.bool (endB N s)) ∧ Below w.heap.size w w' := by
  obtain ⟨g, hg⟩ : ∃ g, w.heap.size = g := ⟨_, rfl⟩
  have hb0 := alo (W := w) (o := .cells #[.slice N.A N.n N.c, .slice N.M N.m N.d, .slice N.K N.k N.e] 26)
  have K1 := Nb.new h hg
  by_cases h0 : s = s0
  · have e0 := emp_t h0
    have HE := hid (endB_t (N := N) (.inl h0))
    clear h0
    go_enter Try.func109, Try.ntmps109
    go_wp2
    go_ret
    exact ⟨ret_bool HE.out.symm, hb0⟩
  · have e0 := emp_f h0
    go_enter Try.func109, Try.ntmps109
    go_wp2_with fail
    generalize w.alloc (.cells #[.slice N.A N.n N.c, .slice N.M N.m N.d, .slice N.K N.k N.e] 26) = W0 at *
    have HB0 := hid hb0
    have Hh := hid h
    have Hg := hid hg
    clear hb0 h hg
    refine (findBasin_any s K1.a hn).mono ?_
    rintro e w2 ⟨r, rfl, hr, hb⟩
    have HB := hid (bthen HB0.out hb (Nat.le_refl _))
    clear hb K1
    rcases endB_ix h0 hr.out with ⟨hd, h1, h2⟩ | hx
    · clear h0
      obtain ⟨p, hp⟩ : ∃ p, endB N s = p := ⟨_, rfl⟩
      rw [hp] at hd
      have Hp := hid hp
      clear hp
      go_wp2
      go_ret
      exact ⟨ret_bool Hp.out.symm, HB.out⟩
    · omega

set_option maxRecDepth 100000 in
set_option maxHeartbeats 4000000 in
theorem rside_any {w : World} {B0 : Nat} {N : Nd} (s : ByteArray) (h : Nt w B0 N) (hn : N.n ≤ 1000) :
    Calls Try.prog 85 #[.agg #[.slice N.A N.n N.c, .slice N.M N.m N.d, .slice N.K N.k N.e], .string s] w fun e w' => e = .returned (.bool (endB N s)) ∧ Below w.heap.size w w' := by
  obtain ⟨g, hg⟩ : ∃ g, w.heap.size = g := ⟨_, rfl⟩
  have hb0 := alo (W := w) (o := .cells #[.slice N.A N.n N.c, .slice N.M N.m N.d, .slice N.K N.k N.e] 26)
  have K1 := Nb.new h hg
  by_cases h0 : s = s0
  · have e0 := emp_t h0
    have HE := hid (endB_t (N := N) (.inl h0))
    clear h0
    go_enter Try.func85, Try.ntmps85
    go_wp2
    go_ret
    exact ⟨ret_bool HE.out.symm, hb0⟩
  · have e0 := emp_f h0
    go_enter Try.func85, Try.ntmps85
    go_wp2_with fail
    generalize w.alloc (.cells #[.slice N.A N.n N.c, .slice N.M N.m N.d, .slice N.K N.k N.e] 26) = W0 at *
    have HB0 := hid hb0
    have Hh := hid h
    have Hg := hid hg
    clear hb0 h hg
    refine (rBasin_any s K1.a hn).mono ?_
    rintro e w2 ⟨r, rfl, hr, hb⟩
    have HB := hid (bthen HB0.out hb (Nat.le_refl _))
    clear hb K1
    rcases endB_ix h0 hr.out with ⟨hd, h1, h2⟩ | hx
    · clear h0
      obtain ⟨p, hp⟩ : ∃ p, endB N s = p := ⟨_, rfl⟩
      rw [hp] at hd
      have Hp := hid hp
      clear hp
      go_wp2
      go_ret
      exact ⟨ret_bool Hp.out.symm, HB.out⟩
    · omega

/-- Whether the numbers of a link are within the limits. -/
def rateOk (l : Ld) : Prop := ((l.kind = 0 → (-1000000 ≤ l.sill ∧ l.sill ≤ 1000000) ∧ (0 ≤ l.fac ∧ l.fac ≤ 1000000000)) ∧ (l.kind ≠ 0 → 0 ≤ l.lift ∧ l.lift ≤ 1000000)) ∧ (0 ≤ l.rate ∧ l.rate ≤ 1000000000)
instance (l : Ld) : Decidable (rateOk l) := by unfold rateOk; exact inferInstance
def rateE (l : Ld) : Int := if rateOk l then 0 else 2
open Classical in
noncomputable def endsE (N : Nd) (l : Ld) : Int := if l.kind ≠ 0 ∧ l.kind ≠ 1 then 3 else if ¬ (endB N l.fr = true ∧ endB N l.tw = true) then 6 else if l.fr = l.tw then 3 else if (l.fr = s0 ∨ l.tw = s0) ∧ N.m = 0 then 29 else 0
/-- The error of a link but for its name. -/
noncomputable def lkE (N : Nd) (l : Ld) : Int := if endsE N l ≠ 0 then endsE N l else rateE l

set_option maxRecDepth 100000 in
set_option maxHeartbeats 4000000 in
theorem rateError_any {w : World} (l : Ld) :
    Calls Try.prog 105 #[.agg #[.string l.nm, .int .i64 l.kind, .string l.fr, .string l.tw, .int .i64 l.sill, .int .i64 l.rate, .int .i64 l.fac, .int .i64 l.lift]] w fun e w' => e = .returned (.int .i64 (rateE l)) ∧ Below w.heap.size w w' := by
  have hb0 := alo (W := w) (o := (.cells #[.string l.nm, .int .i64 l.kind, .string l.fr, .string l.tw, .int .i64 l.sill, .int .i64 l.rate, .int .i64 l.fac, .int .i64 l.lift] 49))
  have K : Lb _ _ l := ⟨Bk.of_alloc w (.cells #[.string l.nm, .int .i64 l.kind, .string l.fr, .string l.tw, .int .i64 l.sill, .int .i64 l.rate, .int .i64 l.fac, .int .i64 l.lift] 49) rfl⟩
  obtain ⟨p, hp⟩ : ∃ p, rateE l = p := ⟨_, rfl⟩
  have hok : rateOk l → p = 0 := fun h => by rw [← hp]; exact if_pos h
  have hno : ¬ rateOk l → p = 2 := fun h => by rw [← hp]; exact if_neg h
  rw [hp]
  clear hp
  obtain ⟨x0, x1, x2, x3, x4, x5, x6, x7⟩ := K.cells
  by_cases k0 : l.kind = 0
  · have d0 : (l.kind == 0) = true := by rw [beq_iff_eq]; exact k0
    by_cases h1 : inB l.sill (-1000000) 1000000 = true
    · by_cases h2 : inB l.fac 0 1000000000 = true
      · by_cases h3 : inB l.rate 0 1000000000 = true
        · have e := hok ⟨⟨fun _ => ⟨inB_iff.1 h1, inB_iff.1 h2⟩, fun h => absurd k0 h⟩, inB_iff.1 h3⟩
          subst e
          clear k0 hok hno
          go_enter Try.func105, Try.ntmps105
          go_wp2_with (first | ((with_reducible refine (Within_any _ _ _ _).mono ?_); rintro e w' ⟨rfl, rfl⟩) | ((with_reducible refine (isLevel_any _ _).mono ?_); rintro e w' ⟨rfl, rfl⟩))
          go_ret
          exact ⟨rfl, hb0⟩
        · have e := hno (fun h => h3 (inB_t h.2))
          have h3' := Bool.eq_false_iff.2 h3
          clear h3
          subst e
          clear k0 hok hno
          go_enter Try.func105, Try.ntmps105
          go_wp2_with (first | ((with_reducible refine (Within_any _ _ _ _).mono ?_); rintro e w' ⟨rfl, rfl⟩) | ((with_reducible refine (isLevel_any _ _).mono ?_); rintro e w' ⟨rfl, rfl⟩))
          go_ret
          exact ⟨rfl, hb0⟩
      · have e := hno (fun h => h2 (inB_t (h.1.1 k0).2))
        have h2' := Bool.eq_false_iff.2 h2
        clear h2
        subst e
        clear k0 hok hno
        go_enter Try.func105, Try.ntmps105
        go_wp2_with (first | ((with_reducible refine (Within_any _ _ _ _).mono ?_); rintro e w' ⟨rfl, rfl⟩) | ((with_reducible refine (isLevel_any _ _).mono ?_); rintro e w' ⟨rfl, rfl⟩))
        go_ret
        exact ⟨rfl, hb0⟩
    · have e := hno (fun h => h1 (inB_t (h.1.1 k0).1))
      have h1' := Bool.eq_false_iff.2 h1
      clear h1
      subst e
      clear k0 hok hno
      go_enter Try.func105, Try.ntmps105
      go_wp2_with (first | ((with_reducible refine (Within_any _ _ _ _).mono ?_); rintro e w' ⟨rfl, rfl⟩) | ((with_reducible refine (isLevel_any _ _).mono ?_); rintro e w' ⟨rfl, rfl⟩))
      go_ret
      exact ⟨rfl, hb0⟩
  · have d0 : (l.kind == 0) = false := by rw [beq_eq_false_iff_ne]; exact k0
    by_cases h1 : inB l.lift 0 1000000 = true
    · by_cases h3 : inB l.rate 0 1000000000 = true
      · have e := hok ⟨⟨fun h => absurd h k0, fun _ => inB_iff.1 h1⟩, inB_iff.1 h3⟩
        subst e
        clear k0 hok hno
        go_enter Try.func105, Try.ntmps105
        go_wp2_with (first | ((with_reducible refine (Within_any _ _ _ _).mono ?_); rintro e w' ⟨rfl, rfl⟩) | ((with_reducible refine (isLevel_any _ _).mono ?_); rintro e w' ⟨rfl, rfl⟩))
        go_ret
        exact ⟨rfl, hb0⟩
      · have e := hno (fun h => h3 (inB_t h.2))
        have h3' := Bool.eq_false_iff.2 h3
        clear h3
        subst e
        clear k0 hok hno
        go_enter Try.func105, Try.ntmps105
        go_wp2_with (first | ((with_reducible refine (Within_any _ _ _ _).mono ?_); rintro e w' ⟨rfl, rfl⟩) | ((with_reducible refine (isLevel_any _ _).mono ?_); rintro e w' ⟨rfl, rfl⟩))
        go_ret
        exact ⟨rfl, hb0⟩
    · have e := hno (fun h => h1 (inB_t (h.1.2 k0)))
      have h1' := Bool.eq_false_iff.2 h1
      clear h1
      subst e
      clear k0 hok hno
      go_enter Try.func105, Try.ntmps105
      go_wp2_with (first | ((with_reducible refine (Within_any _ _ _ _).mono ?_); rintro e w' ⟨rfl, rfl⟩) | ((with_reducible refine (isLevel_any _ _).mono ?_); rintro e w' ⟨rfl, rfl⟩))
      go_ret
      exact ⟨rfl, hb0⟩

set_option maxRecDepth 100000 in
set_option maxHeartbeats 8000000 in
theorem endsError_any {w : World} {B0 : Nat} {N : Nd} (l : Ld) (h : Nt w B0 N) (hn : N.n ≤ 1000) :
    Calls Try.prog 104 #[.agg #[.slice N.A N.n N.c, .slice N.M N.m N.d, .slice N.K N.k N.e], .agg #[.string l.nm, .int .i64 l.kind, .string l.fr, .string l.tw, .int .i64 l.sill, .int .i64 l.rate, .int .i64 l.fac, .int .i64 l.lift]] w fun e w' => e = .returned (.int .i64 (endsE N l)) ∧ Below w.heap.size w w' := by
  obtain ⟨g, hg⟩ : ∃ g, w.heap.size = g := ⟨_, rfl⟩
  have hm0 : N.m ≤ 9223372036854775807 := by have := Nat.le_trans h.md h.dm; unfold maxLen at this; omega
  have hb0 := ((Below.refl w.heap.size w).alloc (Nat.le_refl _) (.cells #[.slice N.A N.n N.c, .slice N.M N.m N.d, .slice N.K N.k N.e] 26)).alloc (by simp) (.cells #[.string l.nm, .int .i64 l.kind, .string l.fr, .string l.tw, .int .i64 l.sill, .int .i64 l.rate, .int .i64 l.fac, .int .i64 l.lift] 49)
  have K1 := (Nb.new h hg).below (alo (o := .cells #[.string l.nm, .int .i64 l.kind, .string l.fr, .string l.tw, .int .i64 l.sill, .int .i64 l.rate, .int .i64 l.fac, .int .i64 l.lift] 49))
  have L1 : Lb _ (g + 1) l := ⟨Bk.of_alloc (w.alloc (.cells #[.slice N.A N.n N.c, .slice N.M N.m N.d, .slice N.K N.k N.e] 26)) (.cells #[.string l.nm, .int .i64 l.kind, .string l.fr, .string l.tw, .int .i64 l.sill, .int .i64 l.rate, .int .i64 l.fac, .int .i64 l.lift] 49) (by simp [hg])⟩
  have hE : ∀ v : Int, v ≠ 0 → endsE N l = v → endsE N l = v := fun v h0 h => h
  have hO : endsE N l = 0 → endsE N l = 0 := fun h => h
  have HE := hid hE
  have HO := hid hO
  clear hE hO
  go_enter Try.func104, Try.ntmps104
  go_upto_region 1 with (fail)
  generalize (w.alloc (.cells #[.slice N.A N.n N.c, .slice N.M N.m N.d, .slice N.K N.k N.e] 26)).alloc (.cells #[.string l.nm, .int .i64 l.kind, .string l.fr, .string l.tw, .int .i64 l.sill, .int .i64 l.rate, .int .i64 l.fac, .int .i64 l.lift] 49) = W0 at *
  have HB0 := hid hb0
  have Hh := hid h
  have Hg := hid hg
  clear hb0 h hg
  obtain ⟨x0, x1, x2⟩ := K1.cells
  obtain ⟨y0, y1, y2, y3, y4, y5, y6, y7⟩ := L1.cells
  by_cases hk : l.kind ≠ 0 ∧ l.kind ≠ 1
  · have d0 : (l.kind != 0) = true := by rw [bne_iff_ne]; exact hk.1
    have d1 : (l.kind != 1) = true := by rw [bne_iff_ne]; exact hk.2
    have R := hid (HE.out 3 (by decide) (by unfold endsE; rw [if_pos hk]))
    clear hk
    go_wp2
    go_ret
    exact ⟨ret_int R.out.symm, HB0.out⟩
  · have Hk := hid hk
    by_cases k0 : l.kind = 0
    · have d0 : (l.kind != 0) = false := by rw [bne_eq_false_iff_eq]; exact k0
      have c0 : (l.kind == 0) = true := by rw [beq_iff_eq]; exact k0
      have c1 : (l.kind == 1) = false := by rw [beq_eq_false_iff_ne]; omega
      have K0 := hid k0
      clear k0 hk
      by_cases e1 : endB N l.fr = true
      · by_cases e2 : endB N l.tw = true
        · have e12 := hid (show ¬ ¬ (endB N l.fr = true ∧ endB N l.tw = true) from fun h => h ⟨e1, e2⟩)
          go_wp2_with fail
          refine (isEnd_any l.fr K1.a hn).mono ?_
          rintro e w2 ⟨rfl, hb⟩
          have K2 := K1.below hb
          have L2 := L1.below hb
          have HB2 := hid (bthen HB0.out hb (Nat.le_refl _))
          clear hb x0 x1 x2 y0 y1 y2 y3 y4 y5 y6 y7 K1 L1
          obtain ⟨x0, x1, x2⟩ := K2.cells
          obtain ⟨y0, y1, y2, y3, y4, y5, y6, y7⟩ := L2.cells
          go_wp2_with fail
          refine (isEnd_any l.tw K2.a hn).mono ?_
          rintro e w3 ⟨rfl, hb⟩
          have K3 := K2.below hb
          have L3 := L2.below hb
          have HB3 := hid (bthen HB2.out hb (Nat.le_refl _))
          clear hb x0 x1 x2 y0 y1 y2 y3 y4 y5 y6 y7 K2 L2
          obtain ⟨x0, x1, x2⟩ := K3.cells
          obtain ⟨y0, y1, y2, y3, y4, y5, y6, y7⟩ := L3.cells
          by_cases hft : l.fr = l.tw
          · have ds := str_t hft
            have R := hid (HE.out 3 (by decide) (by unfold endsE; rw [if_neg Hk.out, if_neg e12.out, if_pos hft]))
            clear hft
            go_wp2
            go_ret
            exact ⟨ret_int R.out.symm, HB3.out⟩
          · have ds := str_f hft
            have Hft := hid hft
            clear hft
            by_cases hz : (l.fr = s0 ∨ l.tw = s0) ∧ N.m = 0
            · have R := hid (HE.out 29 (by decide) (by unfold endsE; rw [if_neg Hk.out, if_neg e12.out, if_neg Hft.out, if_pos hz]))
              obtain ⟨hz1, hz2⟩ := hz
              have dm : ((N.m : Int) == 0) = true := by rw [beq_iff_eq]; omega
              have Hz2 := hid hz2
              clear hz2
              by_cases hf : l.fr = s0
              · have df := emp_t hf
                clear hf hz1
                go_wp2
                go_ret
                exact ⟨ret_int R.out.symm, HB3.out⟩
              · have df := emp_f hf
                have dt := emp_t (hz1.elim (fun h => absurd h hf) id)
                clear hf hz1
                go_wp2
                go_ret
                exact ⟨ret_int R.out.symm, HB3.out⟩
            · have R0 := hid (show endsE N l = 0 by unfold endsE; rw [if_neg Hk.out, if_neg e12.out, if_neg Hft.out, if_neg hz])
              have Hz := hid hz
              clear hz
              by_cases hf : l.fr = s0
              · have df := emp_t hf
                have dm : ((N.m : Int) == 0) = false := by rw [beq_eq_false_iff_ne]; exact fun e => Hz.out ⟨.inl hf, by omega⟩
                clear hf
                go_wp2
                go_ret
                exact ⟨ret_int R0.out.symm, HB3.out⟩
              · have df := emp_f hf
                clear hf
                by_cases ht : l.tw = s0
                · have dt := emp_t ht
                  have dm : ((N.m : Int) == 0) = false := by rw [beq_eq_false_iff_ne]; exact fun e => Hz.out ⟨.inr ht, by omega⟩
                  clear ht
                  go_wp2
                  go_ret
                  exact ⟨ret_int R0.out.symm, HB3.out⟩
                · have dt := emp_f ht
                  clear ht
                  go_wp2
                  go_ret
                  exact ⟨ret_int R0.out.symm, HB3.out⟩
        · have e2' := Bool.eq_false_iff.2 e2
          have R := hid (HE.out 6 (by decide) (by unfold endsE; rw [if_neg Hk.out, if_pos (fun h => e2 h.2)]))
          clear e2
          go_wp2_with fail
          refine (isEnd_any l.fr K1.a hn).mono ?_
          rintro e w2 ⟨rfl, hb⟩
          have K2 := K1.below hb
          have L2 := L1.below hb
          have HB2 := hid (bthen HB0.out hb (Nat.le_refl _))
          clear hb x0 x1 x2 y0 y1 y2 y3 y4 y5 y6 y7 K1 L1
          obtain ⟨x0, x1, x2⟩ := K2.cells
          obtain ⟨y0, y1, y2, y3, y4, y5, y6, y7⟩ := L2.cells
          go_wp2_with fail
          refine (isEnd_any l.tw K2.a hn).mono ?_
          rintro e w3 ⟨rfl, hb⟩
          have HB3 := hid (bthen HB2.out hb (Nat.le_refl _))
          clear hb x0 x1 x2 y0 y1 y2 y3 y4 y5 y6 y7 K2 L2
          go_wp2
          go_ret
          exact ⟨ret_int R.out.symm, HB3.out⟩
      · have e1' := Bool.eq_false_iff.2 e1
        have R := hid (HE.out 6 (by decide) (by unfold endsE; rw [if_neg Hk.out, if_pos (fun h => e1 h.1)]))
        clear e1
        go_wp2_with fail
        refine (isEnd_any l.fr K1.a hn).mono ?_
        rintro e w2 ⟨rfl, hb⟩
        have HB2 := hid (bthen HB0.out hb (Nat.le_refl _))
        clear hb x0 x1 x2 y0 y1 y2 y3 y4 y5 y6 y7 K1 L1
        go_wp2
        go_ret
        exact ⟨ret_int R.out.symm, HB2.out⟩
    · have d0 : (l.kind != 0) = true := by rw [bne_iff_ne]; exact k0
      have d1 : (l.kind != 1) = false := by rw [bne_eq_false_iff_eq]; exact Classical.byContradiction fun h1 => hk ⟨k0, h1⟩
      have c0 : (l.kind == 0) = false := by rw [beq_eq_false_iff_ne]; exact k0
      have c1 : (l.kind == 1) = true := by rw [beq_iff_eq]; exact Classical.byContradiction fun h1 => hk ⟨k0, h1⟩
      have K0 := hid k0
      clear k0 hk
      by_cases e1 : endB N l.fr = true
      · by_cases e2 : endB N l.tw = true
        · have e12 := hid (show ¬ ¬ (endB N l.fr = true ∧ endB N l.tw = true) from fun h => h ⟨e1, e2⟩)
          go_wp2_with fail
          refine (isEnd_any l.fr K1.a hn).mono ?_
          rintro e w2 ⟨rfl, hb⟩
          have K2 := K1.below hb
          have L2 := L1.below hb
          have HB2 := hid (bthen HB0.out hb (Nat.le_refl _))
          clear hb x0 x1 x2 y0 y1 y2 y3 y4 y5 y6 y7 K1 L1
          obtain ⟨x0, x1, x2⟩ := K2.cells
          obtain ⟨y0, y1, y2, y3, y4, y5, y6, y7⟩ := L2.cells
          go_wp2_with fail
          refine (isEnd_any l.tw K2.a hn).mono ?_
          rintro e w3 ⟨rfl, hb⟩
          have K3 := K2.below hb
          have L3 := L2.below hb
          have HB3 := hid (bthen HB2.out hb (Nat.le_refl _))
          clear hb x0 x1 x2 y0 y1 y2 y3 y4 y5 y6 y7 K2 L2
          obtain ⟨x0, x1, x2⟩ := K3.cells
          obtain ⟨y0, y1, y2, y3, y4, y5, y6, y7⟩ := L3.cells
          by_cases hft : l.fr = l.tw
          · have ds := str_t hft
            have R := hid (HE.out 3 (by decide) (by unfold endsE; rw [if_neg Hk.out, if_neg e12.out, if_pos hft]))
            clear hft
            go_wp2
            go_ret
            exact ⟨ret_int R.out.symm, HB3.out⟩
          · have ds := str_f hft
            have Hft := hid hft
            clear hft
            by_cases hz : (l.fr = s0 ∨ l.tw = s0) ∧ N.m = 0
            · have R := hid (HE.out 29 (by decide) (by unfold endsE; rw [if_neg Hk.out, if_neg e12.out, if_neg Hft.out, if_pos hz]))
              obtain ⟨hz1, hz2⟩ := hz
              have dm : ((N.m : Int) == 0) = true := by rw [beq_iff_eq]; omega
              have Hz2 := hid hz2
              clear hz2
              by_cases hf : l.fr = s0
              · have df := emp_t hf
                clear hf hz1
                go_wp2
                go_ret
                exact ⟨ret_int R.out.symm, HB3.out⟩
              · have df := emp_f hf
                have dt := emp_t (hz1.elim (fun h => absurd h hf) id)
                clear hf hz1
                go_wp2
                go_ret
                exact ⟨ret_int R.out.symm, HB3.out⟩
            · have R0 := hid (show endsE N l = 0 by unfold endsE; rw [if_neg Hk.out, if_neg e12.out, if_neg Hft.out, if_neg hz])
              have Hz := hid hz
              clear hz
              by_cases hf : l.fr = s0
              · have df := emp_t hf
                have dm : ((N.m : Int) == 0) = false := by rw [beq_eq_false_iff_ne]; exact fun e => Hz.out ⟨.inl hf, by omega⟩
                clear hf
                go_wp2
                go_ret
                exact ⟨ret_int R0.out.symm, HB3.out⟩
              · have df := emp_f hf
                clear hf
                by_cases ht : l.tw = s0
                · have dt := emp_t ht
                  have dm : ((N.m : Int) == 0) = false := by rw [beq_eq_false_iff_ne]; exact fun e => Hz.out ⟨.inr ht, by omega⟩
                  clear ht
                  go_wp2
                  go_ret
                  exact ⟨ret_int R0.out.symm, HB3.out⟩
                · have dt := emp_f ht
                  clear ht
                  go_wp2
                  go_ret
                  exact ⟨ret_int R0.out.symm, HB3.out⟩
        · have e2' := Bool.eq_false_iff.2 e2
          have R := hid (HE.out 6 (by decide) (by unfold endsE; rw [if_neg Hk.out, if_pos (fun h => e2 h.2)]))
          clear e2
          go_wp2_with fail
          refine (isEnd_any l.fr K1.a hn).mono ?_
          rintro e w2 ⟨rfl, hb⟩
          have K2 := K1.below hb
          have L2 := L1.below hb
          have HB2 := hid (bthen HB0.out hb (Nat.le_refl _))
          clear hb x0 x1 x2 y0 y1 y2 y3 y4 y5 y6 y7 K1 L1
          obtain ⟨x0, x1, x2⟩ := K2.cells
          obtain ⟨y0, y1, y2, y3, y4, y5, y6, y7⟩ := L2.cells
          go_wp2_with fail
          refine (isEnd_any l.tw K2.a hn).mono ?_
          rintro e w3 ⟨rfl, hb⟩
          have HB3 := hid (bthen HB2.out hb (Nat.le_refl _))
          clear hb x0 x1 x2 y0 y1 y2 y3 y4 y5 y6 y7 K2 L2
          go_wp2
          go_ret
          exact ⟨ret_int R.out.symm, HB3.out⟩
      · have e1' := Bool.eq_false_iff.2 e1
        have R := hid (HE.out 6 (by decide) (by unfold endsE; rw [if_neg Hk.out, if_pos (fun h => e1 h.1)]))
        clear e1
        go_wp2_with fail
        refine (isEnd_any l.fr K1.a hn).mono ?_
        rintro e w2 ⟨rfl, hb⟩
        have HB2 := hid (bthen HB0.out hb (Nat.le_refl _))
        clear hb x0 x1 x2 y0 y1 y2 y3 y4 y5 y6 y7 K1 L1
        go_wp2
        go_ret
        exact ⟨ret_int R.out.symm, HB2.out⟩

set_option maxRecDepth 100000 in
set_option maxHeartbeats 8000000 in
theorem checkLink_any {w : World} {B0 : Nat} {N : Nd} (l : Ld) (h : Nt w B0 N) (hn : N.n ≤ 1000) :
    Calls Try.prog 68 #[.agg #[.slice N.A N.n N.c, .slice N.M N.m N.d, .slice N.K N.k N.e], .agg #[.string l.nm, .int .i64 l.kind, .string l.fr, .string l.tw, .int .i64 l.sill, .int .i64 l.rate, .int .i64 l.fac, .int .i64 l.lift]] w fun e w' => e = .returned (.int .i64 (lkE N l)) ∧ Below w.heap.size w w' := by
  obtain ⟨g, hg⟩ : ∃ g, w.heap.size = g := ⟨_, rfl⟩
  have hm0 : N.m ≤ 9223372036854775807 := by have := Nat.le_trans h.md h.dm; unfold maxLen at this; omega
  have hb0 := ((Below.refl w.heap.size w).alloc (Nat.le_refl _) (.cells #[.slice N.A N.n N.c, .slice N.M N.m N.d, .slice N.K N.k N.e] 26)).alloc (by simp) (.cells #[.string l.nm, .int .i64 l.kind, .string l.fr, .string l.tw, .int .i64 l.sill, .int .i64 l.rate, .int .i64 l.fac, .int .i64 l.lift] 49)
  have K1 := (Nb.new h hg).below (alo (o := .cells #[.string l.nm, .int .i64 l.kind, .string l.fr, .string l.tw, .int .i64 l.sill, .int .i64 l.rate, .int .i64 l.fac, .int .i64 l.lift] 49))
  have L1 : Lb _ (g + 1) l := ⟨Bk.of_alloc (w.alloc (.cells #[.slice N.A N.n N.c, .slice N.M N.m N.d, .slice N.K N.k N.e] 26)) (.cells #[.string l.nm, .int .i64 l.kind, .string l.fr, .string l.tw, .int .i64 l.sill, .int .i64 l.rate, .int .i64 l.fac, .int .i64 l.lift] 49) (by simp [hg])⟩
  have hE : ∀ v : Int, v ≠ 0 → endsE N l = v → lkE N l = v := fun v h0 h => by unfold lkE; rw [h, if_pos h0]
  have hO : endsE N l = 0 → lkE N l = rateE l := fun h => by unfold lkE; rw [h, if_neg (by decide)]
  have HE := hid hE
  have HO := hid hO
  clear hE hO
  go_enter Try.func68, Try.ntmps68
  go_upto_region 1 with (fail)
  generalize (w.alloc (.cells #[.slice N.A N.n N.c, .slice N.M N.m N.d, .slice N.K N.k N.e] 26)).alloc (.cells #[.string l.nm, .int .i64 l.kind, .string l.fr, .string l.tw, .int .i64 l.sill, .int .i64 l.rate, .int .i64 l.fac, .int .i64 l.lift] 49) = W0 at *
  have HB0 := hid hb0
  have Hh := hid h
  have Hg := hid hg
  clear hb0 h hg
  obtain ⟨x0, x1, x2⟩ := K1.cells
  obtain ⟨y0, y1, y2, y3, y4, y5, y6, y7⟩ := L1.cells
  by_cases hk : l.kind ≠ 0 ∧ l.kind ≠ 1
  · have d0 : (l.kind != 0) = true := by rw [bne_iff_ne]; exact hk.1
    have d1 : (l.kind != 1) = true := by rw [bne_iff_ne]; exact hk.2
    have R := hid (HE.out 3 (by decide) (by unfold endsE; rw [if_pos hk]))
    clear hk
    go_wp2
    go_ret
    exact ⟨ret_int R.out.symm, HB0.out⟩
  · have Hk := hid hk
    by_cases k0 : l.kind = 0
    · have d0 : (l.kind != 0) = false := by rw [bne_eq_false_iff_eq]; exact k0
      have c0 : (l.kind == 0) = true := by rw [beq_iff_eq]; exact k0
      have c1 : (l.kind == 1) = false := by rw [beq_eq_false_iff_ne]; omega
      have K0 := hid k0
      clear k0 hk
      by_cases e1 : endB N l.fr = true
      · by_cases e2 : endB N l.tw = true
        · have e12 := hid (show ¬ ¬ (endB N l.fr = true ∧ endB N l.tw = true) from fun h => h ⟨e1, e2⟩)
          go_wp2_with fail
          refine (rside_any l.fr K1.a hn).mono ?_
          rintro e w2 ⟨rfl, hb⟩
          have K2 := K1.below hb
          have L2 := L1.below hb
          have HB2 := hid (bthen HB0.out hb (Nat.le_refl _))
          clear hb x0 x1 x2 y0 y1 y2 y3 y4 y5 y6 y7 K1 L1
          obtain ⟨x0, x1, x2⟩ := K2.cells
          obtain ⟨y0, y1, y2, y3, y4, y5, y6, y7⟩ := L2.cells
          go_wp2_with fail
          refine (rside_any l.tw K2.a hn).mono ?_
          rintro e w3 ⟨rfl, hb⟩
          have K3 := K2.below hb
          have L3 := L2.below hb
          have HB3 := hid (bthen HB2.out hb (Nat.le_refl _))
          clear hb x0 x1 x2 y0 y1 y2 y3 y4 y5 y6 y7 K2 L2
          obtain ⟨x0, x1, x2⟩ := K3.cells
          obtain ⟨y0, y1, y2, y3, y4, y5, y6, y7⟩ := L3.cells
          by_cases hft : l.fr = l.tw
          · have ds := str_t hft
            have R := hid (HE.out 3 (by decide) (by unfold endsE; rw [if_neg Hk.out, if_neg e12.out, if_pos hft]))
            clear hft
            go_wp2
            go_ret
            exact ⟨ret_int R.out.symm, HB3.out⟩
          · have ds := str_f hft
            have Hft := hid hft
            clear hft
            by_cases hz : (l.fr = s0 ∨ l.tw = s0) ∧ N.m = 0
            · have R := hid (HE.out 29 (by decide) (by unfold endsE; rw [if_neg Hk.out, if_neg e12.out, if_neg Hft.out, if_pos hz]))
              obtain ⟨hz1, hz2⟩ := hz
              have dm : ((N.m : Int) == 0) = true := by rw [beq_iff_eq]; omega
              have Hz2 := hid hz2
              clear hz2
              by_cases hf : l.fr = s0
              · have df := emp_t hf
                clear hf hz1
                go_wp2
                go_ret
                exact ⟨ret_int R.out.symm, HB3.out⟩
              · have df := emp_f hf
                have dt := emp_t (hz1.elim (fun h => absurd h hf) id)
                clear hf hz1
                go_wp2
                go_ret
                exact ⟨ret_int R.out.symm, HB3.out⟩
            · have R0 := hid (show endsE N l = 0 by unfold endsE; rw [if_neg Hk.out, if_neg e12.out, if_neg Hft.out, if_neg hz])
              have Hz := hid hz
              clear hz
              by_cases hf : l.fr = s0
              · have df := emp_t hf
                have dm : ((N.m : Int) == 0) = false := by rw [beq_eq_false_iff_ne]; exact fun e => Hz.out ⟨.inl hf, by omega⟩
                clear hf
                have RK := hid (HO.out R0.out)
                obtain ⟨p, hp⟩ : ∃ p, rateE l = p := ⟨_, rfl⟩
                have hok : rateOk l → p = 0 := fun h => by rw [← hp]; exact if_pos h
                have hno : ¬ rateOk l → p = 2 := fun h => by rw [← hp]; exact if_neg h
                have Hp := hid hp
                clear hp
                by_cases h3 : inB l.rate 0 1000000000 = true
                · by_cases h1 : inB l.sill (-1000000) 1000000 = true
                  · by_cases h2 : inB l.fac 0 1000000000 = true
                    · have e := hok ⟨⟨fun _ => ⟨inB_iff.1 h1, inB_iff.1 h2⟩, fun h => absurd K0.out h⟩, inB_iff.1 h3⟩
                      subst e
                      clear hok hno
                      go_wp2_with (((with_reducible refine (inside_any _ _ _ _).mono ?_); rintro e w' ⟨rfl, rfl⟩))
                      go_ret
                      exact ⟨ret_int (RK.out.trans Hp.out).symm, HB3.out⟩
                    · have e := hno (fun h => h2 (inB_t (h.1.1 K0.out).2))
                      have h2' := Bool.eq_false_iff.2 h2
                      clear h2
                      subst e
                      clear hok hno
                      go_wp2_with (((with_reducible refine (inside_any _ _ _ _).mono ?_); rintro e w' ⟨rfl, rfl⟩))
                      go_ret
                      exact ⟨ret_int (RK.out.trans Hp.out).symm, HB3.out⟩
                  · have e := hno (fun h => h1 (inB_t (h.1.1 K0.out).1))
                    have h1' := Bool.eq_false_iff.2 h1
                    clear h1
                    subst e
                    clear hok hno
                    go_wp2_with (((with_reducible refine (inside_any _ _ _ _).mono ?_); rintro e w' ⟨rfl, rfl⟩))
                    go_ret
                    exact ⟨ret_int (RK.out.trans Hp.out).symm, HB3.out⟩
                · have e := hno (fun h => h3 (inB_t h.2))
                  have h3' := Bool.eq_false_iff.2 h3
                  clear h3
                  subst e
                  clear hok hno
                  go_wp2_with (((with_reducible refine (inside_any _ _ _ _).mono ?_); rintro e w' ⟨rfl, rfl⟩))
                  go_ret
                  exact ⟨ret_int (RK.out.trans Hp.out).symm, HB3.out⟩
              · have df := emp_f hf
                clear hf
                by_cases ht : l.tw = s0
                · have dt := emp_t ht
                  have dm : ((N.m : Int) == 0) = false := by rw [beq_eq_false_iff_ne]; exact fun e => Hz.out ⟨.inr ht, by omega⟩
                  clear ht
                  have RK := hid (HO.out R0.out)
                  obtain ⟨p, hp⟩ : ∃ p, rateE l = p := ⟨_, rfl⟩
                  have hok : rateOk l → p = 0 := fun h => by rw [← hp]; exact if_pos h
                  have hno : ¬ rateOk l → p = 2 := fun h => by rw [← hp]; exact if_neg h
                  have Hp := hid hp
                  clear hp
                  by_cases h3 : inB l.rate 0 1000000000 = true
                  · by_cases h1 : inB l.sill (-1000000) 1000000 = true
                    · by_cases h2 : inB l.fac 0 1000000000 = true
                      · have e := hok ⟨⟨fun _ => ⟨inB_iff.1 h1, inB_iff.1 h2⟩, fun h => absurd K0.out h⟩, inB_iff.1 h3⟩
                        subst e
                        clear hok hno
                        go_wp2_with (((with_reducible refine (inside_any _ _ _ _).mono ?_); rintro e w' ⟨rfl, rfl⟩))
                        go_ret
                        exact ⟨ret_int (RK.out.trans Hp.out).symm, HB3.out⟩
                      · have e := hno (fun h => h2 (inB_t (h.1.1 K0.out).2))
                        have h2' := Bool.eq_false_iff.2 h2
                        clear h2
                        subst e
                        clear hok hno
                        go_wp2_with (((with_reducible refine (inside_any _ _ _ _).mono ?_); rintro e w' ⟨rfl, rfl⟩))
                        go_ret
                        exact ⟨ret_int (RK.out.trans Hp.out).symm, HB3.out⟩
                    · have e := hno (fun h => h1 (inB_t (h.1.1 K0.out).1))
                      have h1' := Bool.eq_false_iff.2 h1
                      clear h1
                      subst e
                      clear hok hno
                      go_wp2_with (((with_reducible refine (inside_any _ _ _ _).mono ?_); rintro e w' ⟨rfl, rfl⟩))
                      go_ret
                      exact ⟨ret_int (RK.out.trans Hp.out).symm, HB3.out⟩
                  · have e := hno (fun h => h3 (inB_t h.2))
                    have h3' := Bool.eq_false_iff.2 h3
                    clear h3
                    subst e
                    clear hok hno
                    go_wp2_with (((with_reducible refine (inside_any _ _ _ _).mono ?_); rintro e w' ⟨rfl, rfl⟩))
                    go_ret
                    exact ⟨ret_int (RK.out.trans Hp.out).symm, HB3.out⟩
                · have dt := emp_f ht
                  clear ht
                  have RK := hid (HO.out R0.out)
                  obtain ⟨p, hp⟩ : ∃ p, rateE l = p := ⟨_, rfl⟩
                  have hok : rateOk l → p = 0 := fun h => by rw [← hp]; exact if_pos h
                  have hno : ¬ rateOk l → p = 2 := fun h => by rw [← hp]; exact if_neg h
                  have Hp := hid hp
                  clear hp
                  by_cases h3 : inB l.rate 0 1000000000 = true
                  · by_cases h1 : inB l.sill (-1000000) 1000000 = true
                    · by_cases h2 : inB l.fac 0 1000000000 = true
                      · have e := hok ⟨⟨fun _ => ⟨inB_iff.1 h1, inB_iff.1 h2⟩, fun h => absurd K0.out h⟩, inB_iff.1 h3⟩
                        subst e
                        clear hok hno
                        go_wp2_with (((with_reducible refine (inside_any _ _ _ _).mono ?_); rintro e w' ⟨rfl, rfl⟩))
                        go_ret
                        exact ⟨ret_int (RK.out.trans Hp.out).symm, HB3.out⟩
                      · have e := hno (fun h => h2 (inB_t (h.1.1 K0.out).2))
                        have h2' := Bool.eq_false_iff.2 h2
                        clear h2
                        subst e
                        clear hok hno
                        go_wp2_with (((with_reducible refine (inside_any _ _ _ _).mono ?_); rintro e w' ⟨rfl, rfl⟩))
                        go_ret
                        exact ⟨ret_int (RK.out.trans Hp.out).symm, HB3.out⟩
                    · have e := hno (fun h => h1 (inB_t (h.1.1 K0.out).1))
                      have h1' := Bool.eq_false_iff.2 h1
                      clear h1
                      subst e
                      clear hok hno
                      go_wp2_with (((with_reducible refine (inside_any _ _ _ _).mono ?_); rintro e w' ⟨rfl, rfl⟩))
                      go_ret
                      exact ⟨ret_int (RK.out.trans Hp.out).symm, HB3.out⟩
                  · have e := hno (fun h => h3 (inB_t h.2))
                    have h3' := Bool.eq_false_iff.2 h3
                    clear h3
                    subst e
                    clear hok hno
                    go_wp2_with (((with_reducible refine (inside_any _ _ _ _).mono ?_); rintro e w' ⟨rfl, rfl⟩))
                    go_ret
                    exact ⟨ret_int (RK.out.trans Hp.out).symm, HB3.out⟩
        · have e2' := Bool.eq_false_iff.2 e2
          have R := hid (HE.out 6 (by decide) (by unfold endsE; rw [if_neg Hk.out, if_pos (fun h => e2 h.2)]))
          clear e2
          go_wp2_with fail
          refine (rside_any l.fr K1.a hn).mono ?_
          rintro e w2 ⟨rfl, hb⟩
          have K2 := K1.below hb
          have L2 := L1.below hb
          have HB2 := hid (bthen HB0.out hb (Nat.le_refl _))
          clear hb x0 x1 x2 y0 y1 y2 y3 y4 y5 y6 y7 K1 L1
          obtain ⟨x0, x1, x2⟩ := K2.cells
          obtain ⟨y0, y1, y2, y3, y4, y5, y6, y7⟩ := L2.cells
          go_wp2_with fail
          refine (rside_any l.tw K2.a hn).mono ?_
          rintro e w3 ⟨rfl, hb⟩
          have HB3 := hid (bthen HB2.out hb (Nat.le_refl _))
          clear hb x0 x1 x2 y0 y1 y2 y3 y4 y5 y6 y7 K2 L2
          go_wp2
          go_ret
          exact ⟨ret_int R.out.symm, HB3.out⟩
      · have e1' := Bool.eq_false_iff.2 e1
        have R := hid (HE.out 6 (by decide) (by unfold endsE; rw [if_neg Hk.out, if_pos (fun h => e1 h.1)]))
        clear e1
        go_wp2_with fail
        refine (rside_any l.fr K1.a hn).mono ?_
        rintro e w2 ⟨rfl, hb⟩
        have HB2 := hid (bthen HB0.out hb (Nat.le_refl _))
        clear hb x0 x1 x2 y0 y1 y2 y3 y4 y5 y6 y7 K1 L1
        go_wp2
        go_ret
        exact ⟨ret_int R.out.symm, HB2.out⟩
    · have d0 : (l.kind != 0) = true := by rw [bne_iff_ne]; exact k0
      have d1 : (l.kind != 1) = false := by rw [bne_eq_false_iff_eq]; exact Classical.byContradiction fun h1 => hk ⟨k0, h1⟩
      have c0 : (l.kind == 0) = false := by rw [beq_eq_false_iff_ne]; exact k0
      have c1 : (l.kind == 1) = true := by rw [beq_iff_eq]; exact Classical.byContradiction fun h1 => hk ⟨k0, h1⟩
      have K0 := hid k0
      clear k0 hk
      by_cases e1 : endB N l.fr = true
      · by_cases e2 : endB N l.tw = true
        · have e12 := hid (show ¬ ¬ (endB N l.fr = true ∧ endB N l.tw = true) from fun h => h ⟨e1, e2⟩)
          go_wp2_with fail
          refine (rside_any l.fr K1.a hn).mono ?_
          rintro e w2 ⟨rfl, hb⟩
          have K2 := K1.below hb
          have L2 := L1.below hb
          have HB2 := hid (bthen HB0.out hb (Nat.le_refl _))
          clear hb x0 x1 x2 y0 y1 y2 y3 y4 y5 y6 y7 K1 L1
          obtain ⟨x0, x1, x2⟩ := K2.cells
          obtain ⟨y0, y1, y2, y3, y4, y5, y6, y7⟩ := L2.cells
          go_wp2_with fail
          refine (rside_any l.tw K2.a hn).mono ?_
          rintro e w3 ⟨rfl, hb⟩
          have K3 := K2.below hb
          have L3 := L2.below hb
          have HB3 := hid (bthen HB2.out hb (Nat.le_refl _))
          clear hb x0 x1 x2 y0 y1 y2 y3 y4 y5 y6 y7 K2 L2
          obtain ⟨x0, x1, x2⟩ := K3.cells
          obtain ⟨y0, y1, y2, y3, y4, y5, y6, y7⟩ := L3.cells
          by_cases hft : l.fr = l.tw
          · have ds := str_t hft
            have R := hid (HE.out 3 (by decide) (by unfold endsE; rw [if_neg Hk.out, if_neg e12.out, if_pos hft]))
            clear hft
            go_wp2
            go_ret
            exact ⟨ret_int R.out.symm, HB3.out⟩
          · have ds := str_f hft
            have Hft := hid hft
            clear hft
            by_cases hz : (l.fr = s0 ∨ l.tw = s0) ∧ N.m = 0
            · have R := hid (HE.out 29 (by decide) (by unfold endsE; rw [if_neg Hk.out, if_neg e12.out, if_neg Hft.out, if_pos hz]))
              obtain ⟨hz1, hz2⟩ := hz
              have dm : ((N.m : Int) == 0) = true := by rw [beq_iff_eq]; omega
              have Hz2 := hid hz2
              clear hz2
              by_cases hf : l.fr = s0
              · have df := emp_t hf
                clear hf hz1
                go_wp2
                go_ret
                exact ⟨ret_int R.out.symm, HB3.out⟩
              · have df := emp_f hf
                have dt := emp_t (hz1.elim (fun h => absurd h hf) id)
                clear hf hz1
                go_wp2
                go_ret
                exact ⟨ret_int R.out.symm, HB3.out⟩
            · have R0 := hid (show endsE N l = 0 by unfold endsE; rw [if_neg Hk.out, if_neg e12.out, if_neg Hft.out, if_neg hz])
              have Hz := hid hz
              clear hz
              by_cases hf : l.fr = s0
              · have df := emp_t hf
                have dm : ((N.m : Int) == 0) = false := by rw [beq_eq_false_iff_ne]; exact fun e => Hz.out ⟨.inl hf, by omega⟩
                clear hf
                have RK := hid (HO.out R0.out)
                obtain ⟨p, hp⟩ : ∃ p, rateE l = p := ⟨_, rfl⟩
                have hok : rateOk l → p = 0 := fun h => by rw [← hp]; exact if_pos h
                have hno : ¬ rateOk l → p = 2 := fun h => by rw [← hp]; exact if_neg h
                have Hp := hid hp
                clear hp
                by_cases h3 : inB l.rate 0 1000000000 = true
                · by_cases h1 : inB l.lift 0 1000000 = true
                  · have e := hok ⟨⟨fun h => absurd h K0.out, fun _ => inB_iff.1 h1⟩, inB_iff.1 h3⟩
                    subst e
                    clear hok hno
                    go_wp2_with (((with_reducible refine (inside_any _ _ _ _).mono ?_); rintro e w' ⟨rfl, rfl⟩))
                    go_ret
                    exact ⟨ret_int (RK.out.trans Hp.out).symm, HB3.out⟩
                  · have e := hno (fun h => h1 (inB_t (h.1.2 K0.out)))
                    have h1' := Bool.eq_false_iff.2 h1
                    clear h1
                    subst e
                    clear hok hno
                    go_wp2_with (((with_reducible refine (inside_any _ _ _ _).mono ?_); rintro e w' ⟨rfl, rfl⟩))
                    go_ret
                    exact ⟨ret_int (RK.out.trans Hp.out).symm, HB3.out⟩
                · have e := hno (fun h => h3 (inB_t h.2))
                  have h3' := Bool.eq_false_iff.2 h3
                  clear h3
                  subst e
                  clear hok hno
                  go_wp2_with (((with_reducible refine (inside_any _ _ _ _).mono ?_); rintro e w' ⟨rfl, rfl⟩))
                  go_ret
                  exact ⟨ret_int (RK.out.trans Hp.out).symm, HB3.out⟩
              · have df := emp_f hf
                clear hf
                by_cases ht : l.tw = s0
                · have dt := emp_t ht
                  have dm : ((N.m : Int) == 0) = false := by rw [beq_eq_false_iff_ne]; exact fun e => Hz.out ⟨.inr ht, by omega⟩
                  clear ht
                  have RK := hid (HO.out R0.out)
                  obtain ⟨p, hp⟩ : ∃ p, rateE l = p := ⟨_, rfl⟩
                  have hok : rateOk l → p = 0 := fun h => by rw [← hp]; exact if_pos h
                  have hno : ¬ rateOk l → p = 2 := fun h => by rw [← hp]; exact if_neg h
                  have Hp := hid hp
                  clear hp
                  by_cases h3 : inB l.rate 0 1000000000 = true
                  · by_cases h1 : inB l.lift 0 1000000 = true
                    · have e := hok ⟨⟨fun h => absurd h K0.out, fun _ => inB_iff.1 h1⟩, inB_iff.1 h3⟩
                      subst e
                      clear hok hno
                      go_wp2_with (((with_reducible refine (inside_any _ _ _ _).mono ?_); rintro e w' ⟨rfl, rfl⟩))
                      go_ret
                      exact ⟨ret_int (RK.out.trans Hp.out).symm, HB3.out⟩
                    · have e := hno (fun h => h1 (inB_t (h.1.2 K0.out)))
                      have h1' := Bool.eq_false_iff.2 h1
                      clear h1
                      subst e
                      clear hok hno
                      go_wp2_with (((with_reducible refine (inside_any _ _ _ _).mono ?_); rintro e w' ⟨rfl, rfl⟩))
                      go_ret
                      exact ⟨ret_int (RK.out.trans Hp.out).symm, HB3.out⟩
                  · have e := hno (fun h => h3 (inB_t h.2))
                    have h3' := Bool.eq_false_iff.2 h3
                    clear h3
                    subst e
                    clear hok hno
                    go_wp2_with (((with_reducible refine (inside_any _ _ _ _).mono ?_); rintro e w' ⟨rfl, rfl⟩))
                    go_ret
                    exact ⟨ret_int (RK.out.trans Hp.out).symm, HB3.out⟩
                · have dt := emp_f ht
                  clear ht
                  have RK := hid (HO.out R0.out)
                  obtain ⟨p, hp⟩ : ∃ p, rateE l = p := ⟨_, rfl⟩
                  have hok : rateOk l → p = 0 := fun h => by rw [← hp]; exact if_pos h
                  have hno : ¬ rateOk l → p = 2 := fun h => by rw [← hp]; exact if_neg h
                  have Hp := hid hp
                  clear hp
                  by_cases h3 : inB l.rate 0 1000000000 = true
                  · by_cases h1 : inB l.lift 0 1000000 = true
                    · have e := hok ⟨⟨fun h => absurd h K0.out, fun _ => inB_iff.1 h1⟩, inB_iff.1 h3⟩
                      subst e
                      clear hok hno
                      go_wp2_with (((with_reducible refine (inside_any _ _ _ _).mono ?_); rintro e w' ⟨rfl, rfl⟩))
                      go_ret
                      exact ⟨ret_int (RK.out.trans Hp.out).symm, HB3.out⟩
                    · have e := hno (fun h => h1 (inB_t (h.1.2 K0.out)))
                      have h1' := Bool.eq_false_iff.2 h1
                      clear h1
                      subst e
                      clear hok hno
                      go_wp2_with (((with_reducible refine (inside_any _ _ _ _).mono ?_); rintro e w' ⟨rfl, rfl⟩))
                      go_ret
                      exact ⟨ret_int (RK.out.trans Hp.out).symm, HB3.out⟩
                  · have e := hno (fun h => h3 (inB_t h.2))
                    have h3' := Bool.eq_false_iff.2 h3
                    clear h3
                    subst e
                    clear hok hno
                    go_wp2_with (((with_reducible refine (inside_any _ _ _ _).mono ?_); rintro e w' ⟨rfl, rfl⟩))
                    go_ret
                    exact ⟨ret_int (RK.out.trans Hp.out).symm, HB3.out⟩
        · have e2' := Bool.eq_false_iff.2 e2
          have R := hid (HE.out 6 (by decide) (by unfold endsE; rw [if_neg Hk.out, if_pos (fun h => e2 h.2)]))
          clear e2
          go_wp2_with fail
          refine (rside_any l.fr K1.a hn).mono ?_
          rintro e w2 ⟨rfl, hb⟩
          have K2 := K1.below hb
          have L2 := L1.below hb
          have HB2 := hid (bthen HB0.out hb (Nat.le_refl _))
          clear hb x0 x1 x2 y0 y1 y2 y3 y4 y5 y6 y7 K1 L1
          obtain ⟨x0, x1, x2⟩ := K2.cells
          obtain ⟨y0, y1, y2, y3, y4, y5, y6, y7⟩ := L2.cells
          go_wp2_with fail
          refine (rside_any l.tw K2.a hn).mono ?_
          rintro e w3 ⟨rfl, hb⟩
          have HB3 := hid (bthen HB2.out hb (Nat.le_refl _))
          clear hb x0 x1 x2 y0 y1 y2 y3 y4 y5 y6 y7 K2 L2
          go_wp2
          go_ret
          exact ⟨ret_int R.out.symm, HB3.out⟩
      · have e1' := Bool.eq_false_iff.2 e1
        have R := hid (HE.out 6 (by decide) (by unfold endsE; rw [if_neg Hk.out, if_pos (fun h => e1 h.1)]))
        clear e1
        go_wp2_with fail
        refine (rside_any l.fr K1.a hn).mono ?_
        rintro e w2 ⟨rfl, hb⟩
        have HB2 := hid (bthen HB0.out hb (Nat.le_refl _))
        clear hb x0 x1 x2 y0 y1 y2 y3 y4 y5 y6 y7 K1 L1
        go_wp2
        go_ret
        exact ⟨ret_int R.out.symm, HB2.out⟩

end Go.Proofs.Ytockfiobhmohnaa

