/- Words for networks in memory: basins, links; findBasin and findLink, Basin and Link of the reference. For all lists. -/
import Derived.Test.YtndcopljjnbkbaaWba
import Derived.Test.YtndcopljjnbkbaaWsr
namespace Go.Proofs.Ytndcopljjnbkbaa
open Go.RowKit Kb Wb

/-- A basin that came in. -/
structure Bd where
  nm : ByteArray
  A : Option Addr
  n : Nat
  c : Nat
  rim : Int
  F : Nat → Int
  S : Nat → Int
/-- A link that came in. -/
structure Ld where
  nm : ByteArray
  kind : Int
  fr : ByteArray
  tw : ByteArray
  sill : Int
  rate : Int
  fac : Int
  lift : Int
/-- The slice at A reads as n basins. -/
structure Bl (w : World) (B0 : Nat) (A : Option Addr) (n : Nat) (b : Nat → Bd) : Prop where
  at_ : ∀ i, i < n → ∃ ad, A = some ad ∧ ad.block < B0 ∧ w.cell? (ad.add (i * 3)) = some (.string (b i).nm) ∧ w.cell? ⟨(ad.add (i * 3)).block, (ad.add (i * 3)).off + 1, none⟩ = some (.slice (b i).A (b i).n (b i).c) ∧ w.cell? ⟨(ad.add (i * 3)).block, (ad.add (i * 3)).off + 2, none⟩ = some (.int .i64 (b i).rim) ∧ Pa w B0 (b i).A (b i).n (b i).F (b i).S ∧ (b i).n ≤ (b i).c ∧ (b i).c ≤ maxLen
  le : B0 ≤ w.heap.size
/-- The slice at A reads as n links. -/
structure Ll (w : World) (B0 : Nat) (A : Option Addr) (n : Nat) (l : Nat → Ld) : Prop where
  at_ : ∀ i, i < n → ∃ ad, A = some ad ∧ ad.block < B0 ∧ w.cell? (ad.add (i * 8)) = some (.string (l i).nm) ∧ w.cell? ⟨(ad.add (i * 8)).block, (ad.add (i * 8)).off + 1, none⟩ = some (.int .i64 (l i).kind) ∧ w.cell? ⟨(ad.add (i * 8)).block, (ad.add (i * 8)).off + 2, none⟩ = some (.string (l i).fr) ∧ w.cell? ⟨(ad.add (i * 8)).block, (ad.add (i * 8)).off + 3, none⟩ = some (.string (l i).tw) ∧ w.cell? ⟨(ad.add (i * 8)).block, (ad.add (i * 8)).off + 4, none⟩ = some (.int .i64 (l i).sill) ∧ w.cell? ⟨(ad.add (i * 8)).block, (ad.add (i * 8)).off + 5, none⟩ = some (.int .i64 (l i).rate) ∧ w.cell? ⟨(ad.add (i * 8)).block, (ad.add (i * 8)).off + 6, none⟩ = some (.int .i64 (l i).fac) ∧ w.cell? ⟨(ad.add (i * 8)).block, (ad.add (i * 8)).off + 7, none⟩ = some (.int .i64 (l i).lift)
  le : B0 ≤ w.heap.size
section
variable {w w' : World} {B0 n : Nat} {A : Option Addr}
theorem Bl.below {b : Nat → Bd} (h : Bl w B0 A n b) (hb : Below w.heap.size w w') : Bl w' B0 A n b :=
  ⟨fun i hi => by
    obtain ⟨ad, e, h1, h2, h3, h4, h5, h6, h7⟩ := h.at_ i hi
    have l := Nat.lt_of_lt_of_le h1 h.le
    exact ⟨ad, e, h1, (hb.cell (p := ad.add (i * 3)) (in_add l)).trans h2, (hb.cell (p := ⟨(ad.add (i * 3)).block, (ad.add (i * 3)).off + 1, none⟩) (in_add l)).trans h3, (hb.cell (p := ⟨(ad.add (i * 3)).block, (ad.add (i * 3)).off + 2, none⟩) (in_add l)).trans h4, h5.below hb, h6, h7⟩, Nat.le_trans h.le hb.size⟩
theorem Ll.below {l : Nat → Ld} (h : Ll w B0 A n l) (hb : Below w.heap.size w w') : Ll w' B0 A n l :=
  ⟨fun i hi => by
    obtain ⟨ad, e, h1, h2, h3, h4, h5, h6, h7, h8, h9⟩ := h.at_ i hi
    have l := Nat.lt_of_lt_of_le h1 h.le
    exact ⟨ad, e, h1, (hb.cell (p := ad.add (i * 8)) (in_add l)).trans h2, (hb.cell (p := ⟨(ad.add (i * 8)).block, (ad.add (i * 8)).off + 1, none⟩) (in_add l)).trans h3, (hb.cell (p := ⟨(ad.add (i * 8)).block, (ad.add (i * 8)).off + 2, none⟩) (in_add l)).trans h4, (hb.cell (p := ⟨(ad.add (i * 8)).block, (ad.add (i * 8)).off + 3, none⟩) (in_add l)).trans h5, (hb.cell (p := ⟨(ad.add (i * 8)).block, (ad.add (i * 8)).off + 4, none⟩) (in_add l)).trans h6, (hb.cell (p := ⟨(ad.add (i * 8)).block, (ad.add (i * 8)).off + 5, none⟩) (in_add l)).trans h7, (hb.cell (p := ⟨(ad.add (i * 8)).block, (ad.add (i * 8)).off + 6, none⟩) (in_add l)).trans h8, (hb.cell (p := ⟨(ad.add (i * 8)).block, (ad.add (i * 8)).off + 7, none⟩) (in_add l)).trans h9⟩, Nat.le_trans h.le hb.size⟩
end
theorem tl_eq (s : ByteArray) : s.toList = bl s := ByteArray.toList_eq s
theorem bl_inj {s t : ByteArray} (h : bl s = bl t) : s = t := by
  cases s; cases t
  simp only [bl] at h
  congr 1
  exact Array.toList_inj.1 h
theorem str_t {s t : ByteArray} (h : s = t) : (s.toList == t.toList) = true := by rw [beq_iff_eq, h]
theorem str_f {s t : ByteArray} (h : s ≠ t) : (s.toList == t.toList) = false := by
  rw [beq_eq_false_iff_ne]
  exact fun e => h (bl_inj (by rw [← tl_eq, ← tl_eq]; exact e))
/-- The empty text. -/
abbrev s0 : ByteArray := ⟨#[]⟩
theorem emp_t {s : ByteArray} (h : s = s0) : s.toList.isEmpty = true := by subst h; rw [tl_eq]; rfl
theorem emp_f {s : ByteArray} (h : s ≠ s0) : s.toList.isEmpty = false := by
  rw [List.isEmpty_eq_false_iff, tl_eq]
  exact fun e => h (bl_inj e)

/-- r is the place of the first of n names that is s, or -1. -/
def Ixn (n : Nat) (nm : Nat → ByteArray) (s : ByteArray) (r : Int) : Prop := (r = -1 ∧ ∀ j, j < n → nm j ≠ s) ∨ ∃ j : Nat, j < n ∧ (∀ k, k < j → nm k ≠ s) ∧ nm j = s ∧ r = j
theorem Ixn.same {n : Nat} {nm : Nat → ByteArray} {s : ByteArray} {r q : Int} (h : Ixn n nm s r) (k : Ixn n nm s q) : r = q := by
  rcases h with ⟨rfl, h⟩ | ⟨i, hi, h1, h2, rfl⟩ <;> rcases k with ⟨rfl, k⟩ | ⟨j, hj, k1, k2, rfl⟩
  · rfl
  · exact absurd k2 (h j hj)
  · exact absurd h2 (k i hi)
  · rcases Nat.lt_trichotomy i j with e | e | e
    · exact absurd h2 (k1 i e)
    · subst e; rfl
    · exact absurd k2 (h1 j e)
theorem Ixn.ge {n : Nat} {nm : Nat → ByteArray} {s : ByteArray} {r : Int} (h : Ixn n nm s r) : -1 ≤ r ∧ r < (n : Int) ∨ (r = -1 ∧ n = 0) := by
  rcases h with ⟨rfl, _⟩ | ⟨j, hj, _, _, rfl⟩
  · by_cases h : n = 0
    · exact .inr ⟨rfl, h⟩
    · exact .inl ⟨by omega, by omega⟩
  · exact .inl ⟨by omega, by omega⟩

set_option maxRecDepth 100000 in
theorem isNmB_any {w : World} {gs : Nat} {s : ByteArray} (b : Bd) (p : Bool) (hp : (b.nm.toList == s.toList) = p) (hx : w.cell? ⟨gs, 0, none⟩ = some (.string s)) (hg : gs < w.heap.size) :
    Calls Try.prog 98 #[.agg #[.string b.nm, .slice b.A b.n b.c, .int .i64 b.rim], .pointer (some ⟨gs, 0, none⟩)] w fun e w' => e = .returned (.bool p) ∧ Below w.heap.size w w' := by
  have hb := alo (W := w) (o := (.cells #[.string b.nm, .slice b.A b.n b.c, .int .i64 b.rim] 42))
  have hx' := (hb.cell (p := ⟨gs, 0, none⟩) hg).trans hx
  have jb := (Bk.of_alloc w (.cells #[.string b.nm, .slice b.A b.n b.c, .int .i64 b.rim] 42) rfl).c3
  go_enter Try.func98, Try.ntmps98
  go_wp2
  go_ret
  exact ⟨rfl, hb⟩

set_option maxRecDepth 100000 in
set_option maxHeartbeats 4000000 in
theorem IxBasin_any {w : World} {B0 n c gs : Nat} {A : Option Addr} {b : Nat → Bd} {s : ByteArray} (h : Bl w B0 A n b) (hn : n ≤ 1000) (hx : w.cell? ⟨gs, 0, none⟩ = some (.string s)) (hg : gs < w.heap.size) :
    Calls Try.prog 97 #[.slice A n c, .func (.func 98) #[] #[.pointer (some ⟨gs, 0, none⟩)]] w fun e w' => ∃ r : Int, e = .returned (.int .i64 r) ∧ Hid (Ixn n (fun i => (b i).nm) s r) ∧ Below w.heap.size w w' := by
  go_enter Try.func97, Try.ntmps97
  go_wp2_with fail
  go_loopw [5, 8] (fun _ iv wr => ∃ i : Nat, i ≤ n ∧ iv = .int .i64 i ∧ Hid (∀ j, j < i → (b j).nm ≠ s) ∧ Below w.heap.size w wr) (fun _ iv _ => n - (intOf iv).toNat)
  case atStart => exact ⟨0, Nat.zero_le _, rfl, hid (fun j hj => absurd hj (Nat.not_lt_zero _)), Below.refl _ _⟩
  case round =>
    obtain ⟨i, hi, rfl, HN, hbel⟩ := hrel
    have hw := h.below hbel
    have hxw := (hbel.cell (p := ⟨gs, 0, none⟩) hg).trans hx
    have hgw := Nat.lt_of_lt_of_le hg hbel.size
    have Hbel := hid hbel
    have Hx := hid hx
    clear hbel hx
    by_cases hlt : i < n
    · obtain ⟨ad, hA, hl, q0, q1, q2, -⟩ := hw.at_ i hlt
      subst hA
      by_cases hc : (b i).nm = s
      · have hd := str_t hc
        have HE := hid (show Ixn n (fun i => (b i).nm) s (i : Int) from .inr ⟨i, hlt, HN.out, hc, rfl⟩)
        clear hc
        go_wp2_with fail
        refine (isNmB_any (b i) true hd hxw hgw).mono ?_
        rintro e w2 ⟨rfl, hb⟩
        have HB := hid (Hbel.out.trans (hb.mono Hbel.out.size))
        clear hb hxw q0 q1 q2 hd
        go_wp2
        go_ret
        exact ⟨_, rfl, HE, HB.out⟩
      · have hd := str_f hc
        have HN2 := hid (show ∀ j, j < i + 1 → (b j).nm ≠ s from fun j hj => by
          by_cases e : j = i
          · subst e; exact hc
          · exact HN.out j (by omega))
        clear hc
        go_wp2_with fail
        refine (isNmB_any (b i) false hd hxw hgw).mono ?_
        rintro e w2 ⟨rfl, hb⟩
        have HB := hid (Hbel.out.trans (hb.mono Hbel.out.size))
        clear hb hxw q0 q1 q2 hd
        go_wp2
        go_roundw
        case rel => exact ⟨i + 1, by omega, by go_num, HN2, HB.out⟩
        case measure => simp [intOf]; omega
    · obtain rfl : i = n := by omega
      have HE := hid (show Ixn i (fun i => (b i).nm) s (-1) from .inl ⟨rfl, HN.out⟩)
      clear hxw
      go_wp2
      go_ret
      exact ⟨_, rfl, HE, Hbel.out⟩

end Go.Proofs.Ytndcopljjnbkbaa
