/- Networks: Fill of the program. For all networks whose lists are not endless, all minutes and levels. Networks: short, none, SameWater, Ints of the laws. The walk of WaterNetworks. For all networks, minutes and lists of levels. A network that comes in is opened: basins, marks, links; lists of numbers. -/
import Derived.Test.YtockfiobhmohnaaGe
import Derived.Test.YtockfiobhmohnaaGa
namespace Go.Proofs.Ytockfiobhmohnaa
open Go.RowKit Go.Maps Kb Wb

/-- The slice at A reads as numbers, below block B0. -/
structure Ys (w : World) (B0 : Nat) (A : Option Addr) (n : Nat) (Z : Nat → Int) : Prop where
  at_ : ∀ i, i < n → ∃ ad, A = some ad ∧ ad.block < B0 ∧ w.cell? (ad.add i) = some (.int .i64 (Z i))
  le : B0 ≤ w.heap.size
theorem Ys.below {w w' : World} {B0 n : Nat} {A : Option Addr} {Z : Nat → Int} (h : Ys w B0 A n Z) (hb : Below w.heap.size w w') : Ys w' B0 A n Z :=
  ⟨fun i hi => by
    obtain ⟨ad, e, h1, h2⟩ := h.at_ i hi
    exact ⟨ad, e, h1, (hb.cell (p := ad.add i) (in_add (Nat.lt_of_lt_of_le h1 h.le))).trans h2⟩, Nat.le_trans h.le hb.size⟩
/-- A level of a basin. -/
def InL (b : Bd) (z : Int) : Prop := b.F 0 ≤ z ∧ z ≤ b.rim
/-- e is what Fill tells. -/
def Fo (N : Nd) (t : Int) (nl : Nat) (Z : Nat → Int) (e : Int) : Prop := ∃ q, Cn N q ∧ ((q ≠ 0 ∧ e = q) ∨ (q = 0 ∧ ((¬ (0 ≤ t ∧ t ≤ 1000000) ∧ e = 2) ∨ ((0 ≤ t ∧ t ≤ 1000000) ∧ ((nl ≠ N.n ∧ e = 11) ∨ (nl = N.n ∧ ((¬ (∀ i, i < N.n → InL (N.b i) (Z i)) ∧ e = 2) ∨ ((∀ i, i < N.n → InL (N.b i) (Z i)) ∧ e = 0))))))))
/-- The volume below a level in a basin. -/
def volB (b : Bd) (z : Int) : Int := wbelow b.F b.S b.n z
/-- What Fill returns. -/
def Fr (w0 w : World) (N : Nd) (t : Int) (Z : Nat → Int) (e : Int) (x : Value) : Prop :=
  (e ≠ 0 ∧ x = .agg #[.int .i64 0, .slice none 0 0, .slice none 0 0]) ∨ (e = 0 ∧ ∃ v gm, x = .agg #[.int .i64 t, v, .slice (some ⟨gm, 0, none⟩) N.k N.k] ∧ w.ownsRow w0.heap.size 3 1 v N.n (ints (fun i => volB (N.b i) (Z i)) N.n) ∧ ∃ T, Bk w gm (.cells (Array.replicate N.k (.bool false)) T (0, 0)))

/-- A basin in a box, and what stands at a level. -/
structure Ybi (w : World) (gb B0 B1 : Nat) (b : Bd) (A : Option Addr) (n : Nat) (Z : Nat → Int) (ad : Addr) (i : Nat) : Prop where
  y : Ys w B1 A n Z
  b : Bx w gb b.nm b.A b.n b.c b.rim B0 b.F b.S
  A : A = some ad
  i : i < n
section
variable {w w' : World} {gb B0 B1 : Nat} {b : Bd} {A : Option Addr} {n : Nat} {Z : Nat → Int} {ad : Addr} {i : Nat}
theorem Ybi.below (h : Ybi w gb B0 B1 b A n Z ad i) (hb : Below w.heap.size w w') : Ybi w' gb B0 B1 b A n Z ad i := ⟨h.y.below hb, h.b.below hb, h.A, h.i⟩
theorem Ybi.cells (h : Ybi w' gb B0 B1 b A n Z ad i) : w'.cell? ⟨gb, 0, none⟩ = some (.string b.nm) ∧ w'.cell? ⟨gb, 1, none⟩ = some (.slice b.A b.n b.c) ∧ w'.cell? ⟨gb, 2, none⟩ = some (.int .i64 b.rim) ∧ w'.cell? (ad.add i) = some (.int .i64 (Z i)) := by
  obtain ⟨b0, b1, b2⟩ := h.b.cells
  obtain ⟨ad', hA, _, q0⟩ := h.y.at_ i h.i
  rw [h.A] at hA
  injection hA with hA
  subst hA
  exact ⟨b0, b1, b2, q0⟩
end
theorem Bk.set {w : World} {g : Nat} {o : Obj} {p : Addr} (h : Bk w g o) (hp : g ≠ p.block) (x : Value) : Bk (w.setCell p x) g o := (Below.heap_setCell _ _ _ _ hp).trans h
theorem own_any {w : World} {base : Nat} {e : TypeId} {size : Nat} {v : Value} {n : Nat} {xs : List Value} (h : w.ownsRow base e size v n xs) : ∃ a c, v = .slice a n c := by
  rcases h.2 with ⟨hv, h0⟩ | ⟨g, cap, cur, h1, -⟩
  · subst h0; exact ⟨_, _, hv⟩
  · exact ⟨_, _, h1⟩
theorem Bk.fz {W : World} {g : Nat} {C : Array Value} {T : TypeId} (h : Bk W g (.cells C T (0, 0))) (i : Nat) : W.frozen? ⟨g, i, none⟩ = false := by
  unfold Bk at h
  simp [World.frozen?, h]
theorem Bk.put3 {w : World} {g : Nat} {a b c : Value} {T : TypeId} (h : Bk w g (.cells #[a, b, c] T (0, 0))) (x : Value) : Bk (w.setCell ⟨g, 1, none⟩ x) g (.cells #[a, x, c] T (0, 0)) := by
  unfold Bk at h ⊢
  simp only [World.setCell, Array.getElem?_modify, h]
  simp
theorem madeCells_bool (n : Nat) : madeCells #[Value.bool false] (n * 1) = (List.replicate n (Value.bool false)).toArray := by
  apply Array.ext
  · simp [madeCells]
  · intro i h1 h2
    simp [madeCells, Nat.mod_one]

theorem info_bool : (Try.prog.info? 4).map (fun i => (i.zero, i.size, i.bytes)) = some (some (.bool false), 1, 1) := by kernel_rfl
theorem run_make_bools (n : Nat) (hn : n ≤ 2000000000) (w : World) : (Instr.makeSlice 28 (.int .i64 (n : Int)) (.int .i64 (n : Int))).run Try.prog w = .ok (.slice (some ⟨w.heap.size, 0, none⟩) n n) (w.alloc (.cells (List.replicate n (Value.bool false)).toArray 4)) := by
  obtain ⟨i0, hi0, hz0, hz1, hz2⟩ := info_parts info_bool
  rw [run_make (P := Try.prog) w 28 4 i0 (.bool false) Try.underlying28 hi0 hz0 .i64 .i64 n n (Int.natCast_nonneg n) (Int.le_refl _) (by rw [hz2, ← Int.natCast_mul]; omega) (by omega)]
  rw [hz1, Int.toNat_natCast, show (Value.bool false).cells = #[Value.bool false] from rfl, madeCells_bool]
theorem Bk.put_all {w : World} {g : Nat} {a b c : Value} {T : TypeId} (h : Bk w g (.cells #[a, b, c] T (0, 0))) (x y z : Value) : Bk (((w.setCell ⟨g, 0, none⟩ x).setCell ⟨g, 1, none⟩ y).setCell ⟨g, 2, none⟩ z) g (.cells #[x, y, z] T (0, 0)) := by
  unfold Bk at h ⊢
  simp only [World.setCell, Array.getElem?_modify, h]
  simp

end Go.Proofs.Ytockfiobhmohnaa

namespace Go.Proofs.Ytockfiobhmohnaa
open Go.RowKit Go.Maps Kb Wb

/-- No gate of the slice at A is open. -/
structure Fs (w : World) (B0 : Nat) (A : Option Addr) (n : Nat) : Prop where
  at_ : ∀ i, i < n → ∃ ad, A = some ad ∧ ad.block < B0 ∧ w.cell? (ad.add i) = some (.bool false)
  le : B0 ≤ w.heap.size
theorem Fs.below {w w' : World} {B0 n : Nat} {A : Option Addr} (h : Fs w B0 A n) (hb : Below w.heap.size w w') : Fs w' B0 A n :=
  ⟨fun i hi => by
    obtain ⟨ad, e, h1, h2⟩ := h.at_ i hi
    exact ⟨ad, e, h1, (hb.cell (p := ad.add i) (in_add (Nat.lt_of_lt_of_le h1 h.le))).trans h2⟩, Nat.le_trans h.le hb.size⟩
theorem add0 (g i : Nat) : (⟨g, 0, none⟩ : Addr).add i = ⟨g, i, none⟩ := by
  unfold Addr.add
  split <;> simp_all
theorem Fs.of_bk {w : World} {g n : Nat} {T : TypeId} (h : Bk w g (.cells (Array.replicate n (.bool false)) T (0, 0))) : Fs w w.heap.size (some ⟨g, 0, none⟩) n :=
  ⟨fun i hi => ⟨_, rfl, h.lt, by
    rw [add0]
    exact (cell_of_row _ _ i _ _ _ h).trans (by simp [hi])⟩, Nat.le_refl _⟩
theorem Ys.of_own {w : World} {base n : Nat} {T : TypeId} {v : Value} {Z : Nat → Int} (h : w.ownsRow base T 1 v n (ints Z n)) : ∃ A c, v = .slice A n c ∧ Ys w w.heap.size A n Z ∧ n ≤ c ∧ c ≤ maxLen := by
  rcases h.2 with ⟨hv, hn⟩ | ⟨g, cap, cur, hv, hb, hg, h1, h2, h3, h4⟩
  · exact ⟨none, 0, by rw [hv, hn], ⟨fun i hi => by omega, Nat.le_refl _⟩, by omega, by unfold maxLen; omega⟩
  · have hgl := (Array.getElem?_eq_some_iff.1 hg).1
    refine ⟨some ⟨g, 0, none⟩, cap, hv, ⟨fun i hi => ⟨⟨g, 0, none⟩, rfl, hgl, h.cells (g := g) (by rw [hv]; rfl) _ _ (ints_get Z hi)⟩, Nat.le_refl _⟩, h1, h2⟩
theorem Ys.nil (w : World) (Z : Nat → Int) : Ys w w.heap.size none 0 Z := ⟨fun _ hi => absurd hi (Nat.not_lt_zero _), Nat.le_refl _⟩
theorem Fs.nil (w : World) : Fs w w.heap.size none 0 := ⟨fun _ hi => absurd hi (Nat.not_lt_zero _), Nat.le_refl _⟩

section
variable {w : World} {B0 B1 n c c' : Nat} {A A' : Option Addr} {Z : Nat → Int}
set_option maxRecDepth 100000 in
theorem Ints_true (h : Ys w B0 A n Z) (k : Ys w B1 A' n Z) (hn : n ≤ 9223372036854775807) :
    Calls Try.prog 15 #[.slice A n c, .slice A' n c'] w fun e w' => e = .returned (.bool true) ∧ Below w.heap.size w w' := by
  go_enter Try.func15, Try.ntmps15
  go_wp2_with fail
  go_loopw [5] (fun iv wr => ∃ i : Nat, i ≤ n ∧ iv = .int .i64 i ∧ Below w.heap.size w wr) (fun iv _ => n - (intOf iv).toNat)
  case atStart => exact ⟨0, Nat.zero_le _, rfl, Below.refl _ _⟩
  case round =>
    obtain ⟨i, hi, rfl, hbel⟩ := hrel
    have P := h.below hbel
    have Q := k.below hbel
    have Hbel := hid hbel
    clear hbel
    by_cases hlt : i < n
    · obtain ⟨a1, hA1, -, q0⟩ := P.at_ i hlt
      obtain ⟨a2, hA2, -, r0⟩ := Q.at_ i hlt
      subst hA1
      subst hA2
      go_wp2
      go_quiet (fail)
      go_wp2
      go_roundw
      case rel => exact ⟨i + 1, by omega, by go_num, Hbel.out.drewN' _⟩
      case measure => simp [intOf]; omega
    · obtain rfl : i = n := by omega
      go_wp2
      go_ret
      exact ⟨rfl, Hbel.out⟩

set_option maxRecDepth 100000 in
theorem SameWater_true {m d d' : Nat} {M M' : Option Addr} (t : Int) (h : Ys w B0 A n Z) (k : Ys w B1 A' n Z) (f : Fs w B0 M m) (f' : Fs w B1 M' m) (hn : n ≤ 9223372036854775807) (hm : m ≤ 9223372036854775807) :
    Calls Try.prog 14 #[.agg #[.int .i64 t, .slice A n c, .slice M m d], .agg #[.int .i64 t, .slice A' n c', .slice M' m d']] w fun e w' => e = .returned (.bool true) ∧ Below w.heap.size w w' := by
  obtain ⟨g, hg⟩ : ∃ g, w.heap.size = g := ⟨_, rfl⟩
  have hb0 := ((Below.refl w.heap.size w).alloc (Nat.le_refl _) (.cells #[.int .i64 t, .slice A n c, .slice M m d] 30)).alloc (by simp) (.cells #[.int .i64 t, .slice A' n c', .slice M' m d'] 30)
  have R1 := (Bk.of_alloc w (.cells #[.int .i64 t, .slice A n c, .slice M m d] 30) hg).alloc (.cells #[.int .i64 t, .slice A' n c', .slice M' m d'] 30)
  have S1 : Bk _ (g + 1) _ := Bk.of_alloc (w.alloc (.cells #[.int .i64 t, .slice A n c, .slice M m d] 30)) (.cells #[.int .i64 t, .slice A' n c', .slice M' m d'] 30) (by simp [hg])
  have h1 := h.below hb0
  have k1 := k.below hb0
  have f1 := f.below hb0
  have g1 := f'.below hb0
  go_enter Try.func14, Try.ntmps14
  go_upto_region 1 with fail
  generalize (w.alloc (.cells #[.int .i64 t, .slice A n c, .slice M m d] 30)).alloc (.cells #[.int .i64 t, .slice A' n c', .slice M' m d'] 30) = W0 at *
  have HB0 := hid hb0
  have Hg := hid hg
  clear hb0 hg h k f f'
  obtain ⟨r0, r1, r2⟩ := R1.c3
  obtain ⟨s0, s1, s2⟩ := S1.c3
  go_wp2_with fail
  refine (Ints_true h1 k1 hn).mono ?_
  rintro e w2 ⟨rfl, hb⟩
  have F2 := f1.below hb
  have G2 := g1.below hb
  have R2 := R1.step hb
  have S2 := S1.step hb
  have HB2 := hid (bthen HB0.out hb (Nat.le_refl _))
  clear hb h1 k1 f1 g1 R1 S1 r0 r1 r2 s0 s1 s2
  obtain ⟨r0, r1, r2⟩ := R2.c3
  obtain ⟨s0, s1, s2⟩ := S2.c3
  go_wp2_with fail
  clear r0 r1 r2 s0 s1 s2
  go_loopw [5] (fun iv wr => ∃ i : Nat, i ≤ m ∧ iv = .int .i64 i ∧ Below w2.heap.size w2 wr) (fun iv _ => m - (intOf iv).toNat)
  case atStart => exact ⟨0, Nat.zero_le _, rfl, Below.refl _ _⟩
  case round =>
    obtain ⟨i, hi, rfl, hbel⟩ := hrel
    have P := F2.below hbel
    have Q := G2.below hbel
    obtain ⟨r0, r1, r2⟩ := (R2.step hbel).c3
    obtain ⟨s0, s1, s2⟩ := (S2.step hbel).c3
    have Hbel := hid hbel
    clear hbel
    by_cases hlt : i < m
    · obtain ⟨a1, hA1, -, q0⟩ := P.at_ i hlt
      obtain ⟨a2, hA2, -, p0⟩ := Q.at_ i hlt
      subst hA1
      subst hA2
      go_wp2
      go_quiet (fail)
      go_wp2
      go_roundw
      case rel => exact ⟨i + 1, by omega, by go_num, Hbel.out.drewN' _⟩
      case measure => simp [intOf]; omega
    · obtain rfl : i = m := by omega
      go_wp2
      go_ret
      exact ⟨rfl, bthen HB2.out Hbel.out (Nat.le_refl _)⟩

set_option maxRecDepth 100000 in
theorem none_true (w : World) :
    Calls Try.prog 12 #[.agg #[.int .i64 0, .slice none 0 0, .slice none 0 0]] w fun e w' => e = .returned (.bool true) ∧ Below w.heap.size w w' := by
  obtain ⟨g, hg⟩ : ∃ g, w.heap.size = g := ⟨_, rfl⟩
  have hb0 := alo (W := w) (o := .cells #[.int .i64 0, .slice none 0 0, .slice none 0 0] 30)
  have R1 := Bk.of_alloc w (.cells #[.int .i64 0, .slice none 0 0, .slice none 0 0] 30) hg
  go_enter Try.func12, Try.ntmps12
  go_upto_region 1 with fail
  generalize w.alloc (.cells #[.int .i64 0, .slice none 0 0, .slice none 0 0] 30) = W0 at *
  have HB0 := hid hb0
  clear hb0
  obtain ⟨r0, r1, r2⟩ := R1.c3
  go_wp2_with fail
  refine (SameWater_true (A := none) (A' := none) (n := 0) (M := none) (M' := none) (m := 0) 0 (Ys.nil _ fun _ => 0) (Ys.nil _ fun _ => 0) (Fs.nil _) (Fs.nil _) (by decide) (by decide)).mono ?_
  rintro e w2 ⟨rfl, hb⟩
  have HB2 := hid (bthen HB0.out hb (Nat.le_refl _))
  clear hb
  go_wp2
  go_ret
  exact ⟨rfl, HB2.out⟩
end

/-- A network whose lists are short. -/
structure Nss (N : Nd) : Prop where
  n : N.n ≤ 10
  k : N.k ≤ 14
  m : N.m ≤ 30 ∨ 400 < N.m
  b : ∀ i, i < N.n → (N.b i).n ≤ 30 ∧ (N.b i).nm.size ≤ 40
  l : ∀ i, i < N.k → (N.l i).nm.size ≤ 40 ∧ (N.l i).fr.size ≤ 40 ∧ (N.l i).tw.size ≤ 40
theorem Nss.sm {N : Nd} (h : Nss N) : Nsm N := ⟨Nat.le_trans h.n (by decide), Nat.le_trans h.k (by decide), fun i hi => Nat.le_trans (h.b i hi).2 (by decide), fun i hi => Nat.le_trans (h.l i hi).1 (by decide)⟩
set_option maxRecDepth 100000 in
set_option maxHeartbeats 4000000 in
theorem short_any {w : World} {B0 : Nat} {N : Nd} (h : Nt w B0 N) (hsz : ∀ i, i < N.k → (N.l i).nm.size < 9223372036854775808 ∧ (N.l i).fr.size < 9223372036854775808 ∧ (N.l i).tw.size < 9223372036854775808) (hsb : ∀ i, i < N.n → (N.b i).nm.size < 9223372036854775808) :
    Calls Try.prog 33 #[.agg #[.slice N.A N.n N.c, .slice N.M N.m N.d, .slice N.K N.k N.e]] w fun e w' => ∃ p : Bool, e = .returned (.bool p) ∧ Hid (p = true → Nss N) ∧ Below w.heap.size w w' := by
  have HA := hid (Nat.le_trans h.nc h.cm)
  have HM := hid (Nat.le_trans h.md h.dm)
  have HK := hid (Nat.le_trans h.ke h.em)
  have hn9 : N.n ≤ 9223372036854775807 := by have := HA.out; unfold maxLen at this; omega
  have hm9 : N.m ≤ 9223372036854775807 := by have := HM.out; unfold maxLen at this; omega
  have hk9 : N.k ≤ 9223372036854775807 := by have := HK.out; unfold maxLen at this; omega
  obtain ⟨g, hg⟩ : ∃ g, w.heap.size = g := ⟨_, rfl⟩
  have hb0 := alo (W := w) (o := .cells #[.slice N.A N.n N.c, .slice N.M N.m N.d, .slice N.K N.k N.e] 26)
  have K1 := Nb.new h hg
  go_enter Try.func33, Try.ntmps33
  go_upto_region 1 with fail
  generalize w.alloc (.cells #[.slice N.A N.n N.c, .slice N.M N.m N.d, .slice N.K N.k N.e] 26) = W0 at *
  have HB0 := hid hb0
  clear hb0 hg
  obtain ⟨x0, x1, x2⟩ := K1.cells
  by_cases h10 : 10 < N.n
  · have d1 : decide ((10 : Int) < (N.n : Int)) = true := decide_eq_true (by omega)
    go_wp2
    go_ret
    exact ⟨false, rfl, hid (fun h => by cases h), HB0.out⟩
  · have d1 : decide ((10 : Int) < (N.n : Int)) = false := decide_eq_false (by omega)
    by_cases h14 : 14 < N.k
    · have d2 : decide ((14 : Int) < (N.k : Int)) = true := decide_eq_true (by omega)
      go_wp2
      go_ret
      exact ⟨false, rfl, hid (fun h => by cases h), HB0.out⟩
    · have d2 : decide ((14 : Int) < (N.k : Int)) = false := decide_eq_false (by omega)
      by_cases h30 : 30 < N.m
      · have d3 : decide ((30 : Int) < (N.m : Int)) = true := decide_eq_true (by omega)
        by_cases h400 : N.m ≤ 400
        · have d4 : decide ((N.m : Int) ≤ 400) = true := decide_eq_true (by omega)
          go_wp2
          go_ret
          exact ⟨false, rfl, hid (fun h => by cases h), HB0.out⟩
        · have d4 : decide ((N.m : Int) ≤ 400) = false := decide_eq_false (by omega)
          have HMM := hid (show N.m ≤ 30 ∨ 400 < N.m from .inr (by omega))
          go_wp2_with fail
          clear x0 x1 x2 d1 d2 d3
          go_loopw [3] (fun iv wr => ∃ i : Nat, i ≤ N.n ∧ iv = .int .i64 i ∧ Hid (∀ j, j < i → (N.b j).n ≤ 30 ∧ (N.b j).nm.size ≤ 40) ∧ Below W0.heap.size W0 wr) (fun iv _ => N.n - (intOf iv).toNat)
          case atStart => exact ⟨0, Nat.zero_le _, rfl, hid (fun j hj => absurd hj (Nat.not_lt_zero _)), Below.refl _ _⟩
          case round =>
            obtain ⟨i, hi, rfl, HN, hbel⟩ := hrel
            have K2 := K1.below hbel
            obtain ⟨x0, x1, x2⟩ := K2.cells
            have HB2 := hid (bthen HB0.out hbel (Nat.le_refl _))
            have Hbel := hid hbel
            clear hbel
            by_cases hlt : i < N.n
            · obtain ⟨ad, hA, hl, q0, q1, q2, hP, hP1, hP2⟩ := K2.a.b.at_ i hlt
              have dlt : decide ((i : Int) < (N.n : Int)) = true := decide_eq_true (by omega)
              have hbn : (N.b i).n ≤ 9223372036854775807 := by unfold maxLen at hP2; omega
              have hbs := hsb i hlt
              obtain ⟨B, hB⟩ : ∃ B, N.b i = B := ⟨_, rfl⟩
              rw [hB] at q0 q1 q2 hbn hbs
              clear hP hP1 hP2
              by_cases e1 : 30 < B.n
              · have f1 : decide ((30 : Int) < (B.n : Int)) = true := decide_eq_true (by omega)
                go_wp2
                go_ret
                exact ⟨false, rfl, hid (fun h => by cases h), HB2.out⟩
              · have f1 : decide ((30 : Int) < (B.n : Int)) = false := decide_eq_false (by omega)
                by_cases e2 : 40 < B.nm.size
                · have f2 : decide ((40 : Int) < (B.nm.size : Int)) = true := decide_eq_true (by omega)
                  go_wp2
                  go_ret
                  exact ⟨false, rfl, hid (fun h => by cases h), HB2.out⟩
                · have f2 : decide ((40 : Int) < (B.nm.size : Int)) = false := decide_eq_false (by omega)
                  go_wp2
                  go_roundw
                  case rel => exact ⟨i + 1, by omega, by go_num, hid (fun j hj => by rcases Nat.lt_or_ge j i with h | h; exact HN.out j h; have : j = i := (by omega); subst this; rw [hB]; exact ⟨by omega, by omega⟩), Hbel.out⟩
                  case measure => simp [intOf]; omega
            · have e : i = N.n := by omega
              have dlt : decide ((i : Int) < (N.n : Int)) = false := decide_eq_false (by omega)
              subst e
              go_wp2_with fail
              clear x0 x1 x2 dlt
              go_loopw [4] (fun iv wr2 => ∃ i : Nat, i ≤ N.k ∧ iv = .int .i64 i ∧ Hid (∀ j, j < i → (N.l j).nm.size ≤ 40 ∧ (N.l j).fr.size ≤ 40 ∧ (N.l j).tw.size ≤ 40) ∧ Below wr.heap.size wr wr2) (fun iv _ => N.k - (intOf iv).toNat)
              case atStart => exact ⟨0, Nat.zero_le _, rfl, hid (fun j hj => absurd hj (Nat.not_lt_zero _)), Below.refl _ _⟩
              case round =>
                obtain ⟨i, hi, rfl, HL, hbel⟩ := hrel
                have K3 := K2.below hbel
                obtain ⟨x0, x1, x2⟩ := K3.cells
                have HB3 := hid (bthen HB2.out hbel (Nat.le_refl _))
                have Hbel3 := hid hbel
                clear hbel
                by_cases hlt : i < N.k
                · obtain ⟨ad, hA, hl, q0, q1, q2, q3, q4, q5, q6, q7⟩ := K3.a.l.at_ i hlt
                  have dlt : decide ((i : Int) < (N.k : Int)) = true := decide_eq_true (by omega)
                  obtain ⟨z1, z2, z3⟩ := hsz i hlt
                  obtain ⟨B, hB⟩ : ∃ B, N.l i = B := ⟨_, rfl⟩
                  rw [hB] at q0 q1 q2 q3 q4 q5 q6 q7 z1 z2 z3
                  by_cases e1 : 40 < B.nm.size
                  · have f1 : decide ((40 : Int) < (B.nm.size : Int)) = true := decide_eq_true (by omega)
                    go_wp2
                    go_ret
                    exact ⟨false, rfl, hid (fun h => by cases h), HB3.out⟩
                  · have f1 : decide ((40 : Int) < (B.nm.size : Int)) = false := decide_eq_false (by omega)
                    by_cases e2 : 40 < B.fr.size
                    · have f2 : decide ((40 : Int) < (B.fr.size : Int)) = true := decide_eq_true (by omega)
                      go_wp2
                      go_ret
                      exact ⟨false, rfl, hid (fun h => by cases h), HB3.out⟩
                    · have f2 : decide ((40 : Int) < (B.fr.size : Int)) = false := decide_eq_false (by omega)
                      by_cases e3 : 40 < B.tw.size
                      · have f3 : decide ((40 : Int) < (B.tw.size : Int)) = true := decide_eq_true (by omega)
                        go_wp2
                        go_ret
                        exact ⟨false, rfl, hid (fun h => by cases h), HB3.out⟩
                      · have f3 : decide ((40 : Int) < (B.tw.size : Int)) = false := decide_eq_false (by omega)
                        go_wp2
                        go_roundw
                        case rel => exact ⟨i + 1, by omega, by go_num, hid (fun j hj => by rcases Nat.lt_or_ge j i with h | h; exact HL.out j h; have : j = i := (by omega); subst this; rw [hB]; exact ⟨by omega, by omega, by omega⟩), Hbel3.out⟩
                        case measure => simp [intOf]; omega
                · have e : i = N.k := by omega
                  have dlt : decide ((i : Int) < (N.k : Int)) = false := decide_eq_false (by omega)
                  subst e
                  go_wp2
                  go_ret
                  exact ⟨true, rfl, hid (fun _ => ⟨by omega, by omega, HMM.out, HN.out, HL.out⟩), HB3.out⟩
      · have d3 : decide ((30 : Int) < (N.m : Int)) = false := decide_eq_false (by omega)
        have HMM := hid (show N.m ≤ 30 ∨ 400 < N.m from .inl (by omega))
        go_wp2_with fail
        clear x0 x1 x2 d1 d2 d3
        go_loopw [3] (fun iv wr => ∃ i : Nat, i ≤ N.n ∧ iv = .int .i64 i ∧ Hid (∀ j, j < i → (N.b j).n ≤ 30 ∧ (N.b j).nm.size ≤ 40) ∧ Below W0.heap.size W0 wr) (fun iv _ => N.n - (intOf iv).toNat)
        case atStart => exact ⟨0, Nat.zero_le _, rfl, hid (fun j hj => absurd hj (Nat.not_lt_zero _)), Below.refl _ _⟩
        case round =>
          obtain ⟨i, hi, rfl, HN, hbel⟩ := hrel
          have K2 := K1.below hbel
          obtain ⟨x0, x1, x2⟩ := K2.cells
          have HB2 := hid (bthen HB0.out hbel (Nat.le_refl _))
          have Hbel := hid hbel
          clear hbel
          by_cases hlt : i < N.n
          · obtain ⟨ad, hA, hl, q0, q1, q2, hP, hP1, hP2⟩ := K2.a.b.at_ i hlt
            have dlt : decide ((i : Int) < (N.n : Int)) = true := decide_eq_true (by omega)
            have hbn : (N.b i).n ≤ 9223372036854775807 := by unfold maxLen at hP2; omega
            have hbs := hsb i hlt
            obtain ⟨B, hB⟩ : ∃ B, N.b i = B := ⟨_, rfl⟩
            rw [hB] at q0 q1 q2 hbn hbs
            clear hP hP1 hP2
            by_cases e1 : 30 < B.n
            · have f1 : decide ((30 : Int) < (B.n : Int)) = true := decide_eq_true (by omega)
              go_wp2
              go_ret
              exact ⟨false, rfl, hid (fun h => by cases h), HB2.out⟩
            · have f1 : decide ((30 : Int) < (B.n : Int)) = false := decide_eq_false (by omega)
              by_cases e2 : 40 < B.nm.size
              · have f2 : decide ((40 : Int) < (B.nm.size : Int)) = true := decide_eq_true (by omega)
                go_wp2
                go_ret
                exact ⟨false, rfl, hid (fun h => by cases h), HB2.out⟩
              · have f2 : decide ((40 : Int) < (B.nm.size : Int)) = false := decide_eq_false (by omega)
                go_wp2
                go_roundw
                case rel => exact ⟨i + 1, by omega, by go_num, hid (fun j hj => by rcases Nat.lt_or_ge j i with h | h; exact HN.out j h; have : j = i := (by omega); subst this; rw [hB]; exact ⟨by omega, by omega⟩), Hbel.out⟩
                case measure => simp [intOf]; omega
          · have e : i = N.n := by omega
            have dlt : decide ((i : Int) < (N.n : Int)) = false := decide_eq_false (by omega)
            subst e
            go_wp2_with fail
            clear x0 x1 x2 dlt
            go_loopw [4] (fun iv wr2 => ∃ i : Nat, i ≤ N.k ∧ iv = .int .i64 i ∧ Hid (∀ j, j < i → (N.l j).nm.size ≤ 40 ∧ (N.l j).fr.size ≤ 40 ∧ (N.l j).tw.size ≤ 40) ∧ Below wr.heap.size wr wr2) (fun iv _ => N.k - (intOf iv).toNat)
            case atStart => exact ⟨0, Nat.zero_le _, rfl, hid (fun j hj => absurd hj (Nat.not_lt_zero _)), Below.refl _ _⟩
            case round =>
              obtain ⟨i, hi, rfl, HL, hbel⟩ := hrel
              have K3 := K2.below hbel
              obtain ⟨x0, x1, x2⟩ := K3.cells
              have HB3 := hid (bthen HB2.out hbel (Nat.le_refl _))
              have Hbel3 := hid hbel
              clear hbel
              by_cases hlt : i < N.k
              · obtain ⟨ad, hA, hl, q0, q1, q2, q3, q4, q5, q6, q7⟩ := K3.a.l.at_ i hlt
                have dlt : decide ((i : Int) < (N.k : Int)) = true := decide_eq_true (by omega)
                obtain ⟨z1, z2, z3⟩ := hsz i hlt
                obtain ⟨B, hB⟩ : ∃ B, N.l i = B := ⟨_, rfl⟩
                rw [hB] at q0 q1 q2 q3 q4 q5 q6 q7 z1 z2 z3
                by_cases e1 : 40 < B.nm.size
                · have f1 : decide ((40 : Int) < (B.nm.size : Int)) = true := decide_eq_true (by omega)
                  go_wp2
                  go_ret
                  exact ⟨false, rfl, hid (fun h => by cases h), HB3.out⟩
                · have f1 : decide ((40 : Int) < (B.nm.size : Int)) = false := decide_eq_false (by omega)
                  by_cases e2 : 40 < B.fr.size
                  · have f2 : decide ((40 : Int) < (B.fr.size : Int)) = true := decide_eq_true (by omega)
                    go_wp2
                    go_ret
                    exact ⟨false, rfl, hid (fun h => by cases h), HB3.out⟩
                  · have f2 : decide ((40 : Int) < (B.fr.size : Int)) = false := decide_eq_false (by omega)
                    by_cases e3 : 40 < B.tw.size
                    · have f3 : decide ((40 : Int) < (B.tw.size : Int)) = true := decide_eq_true (by omega)
                      go_wp2
                      go_ret
                      exact ⟨false, rfl, hid (fun h => by cases h), HB3.out⟩
                    · have f3 : decide ((40 : Int) < (B.tw.size : Int)) = false := decide_eq_false (by omega)
                      go_wp2
                      go_roundw
                      case rel => exact ⟨i + 1, by omega, by go_num, hid (fun j hj => by rcases Nat.lt_or_ge j i with h | h; exact HL.out j h; have : j = i := (by omega); subst this; rw [hB]; exact ⟨by omega, by omega, by omega⟩), Hbel3.out⟩
                      case measure => simp [intOf]; omega
              · have e : i = N.k := by omega
                have dlt : decide ((i : Int) < (N.k : Int)) = false := decide_eq_false (by omega)
                subst e
                go_wp2
                go_ret
                exact ⟨true, rfl, hid (fun _ => ⟨by omega, by omega, HMM.out, HN.out, HL.out⟩), HB3.out⟩

end Go.Proofs.Ytockfiobhmohnaa

namespace Go.Proofs.Ytockfiobhmohnaa
open Go.RowKit Go.Maps Kb Wb

theorem Fo.same {N : Nd} {t : Int} {nl : Nat} {Z : Nat → Int} {r s : Int} (h : Fo N t nl Z r) (k : Fo N t nl Z s) : r = s := by
  obtain ⟨q, hq, h⟩ := h
  obtain ⟨p, hp, k⟩ := k
  have := hq.same hp
  subst this
  rcases h with ⟨h0, rfl⟩ | ⟨h0, ⟨h1, rfl⟩ | ⟨h1, ⟨h2, rfl⟩ | ⟨h2, ⟨h3, rfl⟩ | ⟨h3, rfl⟩⟩⟩⟩ <;> rcases k with ⟨k0, rfl⟩ | ⟨k0, ⟨k1, rfl⟩ | ⟨k1, ⟨k2, rfl⟩ | ⟨k2, ⟨k3, rfl⟩ | ⟨k3, rfl⟩⟩⟩⟩ <;> first | rfl | exact absurd k0 h0 | exact absurd h0 k0 | exact absurd k1 h1 | exact absurd h1 k1 | exact absurd k2 h2 | exact absurd h2 k2 | exact absurd k3 h3 | exact absurd h3 k3
theorem Cn.cb {N : Nd} (h : Cn N 0) {i : Nat} (hi : i < N.n) : Cb (nameB (N.b i).nm) (N.b i).n (N.b i).F (N.b i).S (N.b i).rim 0 := by
  rcases h.zero.1 with ⟨_, h⟩ | ⟨_, ⟨j, hj, _, h1⟩ | ⟨h1, _⟩⟩
  · cases h
  · rcases h1 with ⟨_, h⟩ | ⟨_, _, h⟩ | ⟨_, _, _, h⟩
    · cases h
    · cases h
    · exact absurd rfl h
  · exact .inr ⟨(h1 i hi).1, (h1 i hi).2.2⟩
theorem vo_ex {N : Nd} (h : Cn N 0) {i : Nat} (hi : i < N.n) (z : Int) : ∃ r x : Int, Vo (nameB (N.b i).nm) (N.b i).n (N.b i).F (N.b i).S (N.b i).rim z r x ∧ ((InL (N.b i) z ∧ r = volB (N.b i) z ∧ x = 0) ∨ (¬ InL (N.b i) z ∧ r = 0 ∧ x = 2)) := by
  by_cases hin : InL (N.b i) z
  · exact ⟨volB (N.b i) z, 0, ⟨0, h.cb hi, .inr ⟨rfl, .inr ⟨hin, rfl, rfl⟩⟩⟩, .inl ⟨hin, rfl, rfl⟩⟩
  · exact ⟨0, 2, ⟨0, h.cb hi, .inr ⟨rfl, .inl ⟨hin, rfl, rfl⟩⟩⟩, .inr ⟨hin, rfl, rfl⟩⟩
/-- The state that Fill returned. -/
def Xf (w : World) (B1 : Nat) (N : Nd) (t : Int) (Z : Nat → Int) (r t1 : Int) (xa : Option Addr) (xn xc : Nat) (ya : Option Addr) (yn yc : Nat) : Prop :=
  (r ≠ 0 ∧ t1 = 0 ∧ xa = none ∧ xn = 0 ∧ xc = 0 ∧ ya = none ∧ yn = 0 ∧ yc = 0) ∨ (r = 0 ∧ t1 = t ∧ xn = N.n ∧ yn = N.k ∧ Ys w B1 xa N.n (fun i => volB (N.b i) (Z i)) ∧ Fs w B1 ya N.k ∧ N.n ≤ xc ∧ xc ≤ maxLen ∧ yc = N.k)
theorem Xf.below {w w' : World} {B1 : Nat} {N : Nd} {t : Int} {Z : Nat → Int} {r t1 : Int} {xa : Option Addr} {xn xc : Nat} {ya : Option Addr} {yn yc : Nat} (h : Xf w B1 N t Z r t1 xa xn xc ya yn yc) (hb : Below w.heap.size w w') : Xf w' B1 N t Z r t1 xa xn xc ya yn yc :=
  h.imp id fun ⟨h0, h1, h2, h3, h4, h5, h6⟩ => ⟨h0, h1, h2, h3, h4.below hb, h5.below hb, h6⟩
theorem Fr.form {w0 w : World} {N : Nd} {t : Int} {Z : Nat → Int} {r : Int} {x : Value} (h : Fr w0 w N t Z r x) : ∃ (t1 : Int) (xa : Option Addr) (xn xc : Nat) (ya : Option Addr) (yn yc : Nat), x = .agg #[.int .i64 t1, .slice xa xn xc, .slice ya yn yc] ∧ Xf w w.heap.size N t Z r t1 xa xn xc ya yn yc := by
  rcases h with ⟨h0, rfl⟩ | ⟨h0, v, gm, rfl, hown, T, hg⟩
  · exact ⟨0, none, 0, 0, none, 0, 0, rfl, .inl ⟨h0, rfl, rfl, rfl, rfl, rfl, rfl, rfl⟩⟩
  · obtain ⟨A, c, rfl, hY, h1, h2⟩ := Ys.of_own hown
    exact ⟨t, A, N.n, c, _, _, _, rfl, .inr ⟨h0, rfl, rfl, rfl, hY, Fs.of_bk hg, h1, h2, rfl⟩⟩
/-- How the law's error stands after i levels. -/
def Lc (N : Nd) (t : Int) (nl : Nat) (Z : Nat → Int) (i : Nat) (c : Int) : Prop := (c ≠ 0 ∧ Fo N t nl Z c) ∨ (c = 0 ∧ Cn N 0 ∧ (0 ≤ t ∧ t ≤ 1000000) ∧ nl = N.n ∧ ∀ j, j < i → InL (N.b j) (Z j))
theorem Lc.next {N : Nd} {t : Int} {nl i : Nat} {Z : Nat → Int} {r x : Int} (h : Lc N t nl Z i 0) (hi : i < N.n) (hc : (InL (N.b i) (Z i) ∧ r = volB (N.b i) (Z i) ∧ x = 0) ∨ (¬ InL (N.b i) (Z i) ∧ r = 0 ∧ x = 2)) : Lc N t nl Z (i + 1) x := by
  rcases h with ⟨h, _⟩ | ⟨_, h1, h2, h3, h4⟩
  · exact absurd rfl h
  · rcases hc with ⟨c1, _, rfl⟩ | ⟨c1, _, rfl⟩
    · refine .inr ⟨rfl, h1, h2, h3, fun j hj => ?_⟩
      rcases Nat.lt_or_ge j i with h | h
      · exact h4 j h
      · have : j = i := by omega
        subst this; exact c1
    · exact .inl ⟨by decide, 0, h1, .inr ⟨rfl, .inr ⟨h2, .inr ⟨h3, .inl ⟨fun h => c1 (h i hi), rfl⟩⟩⟩⟩⟩
/-- The network's box, basin i, and level i. -/
structure Ni (w : World) (g B0 B1 : Nat) (N : Nd) (A : Option Addr) (nl : Nat) (Z : Nat → Int) (al ab : Addr) (i : Nat) : Prop where
  n : Nb w g B0 N
  y : Ys w B1 A nl Z
  ha : A = some al
  hi : i < nl
  hb : N.A = some ab
  hj : i < N.n
section
variable {w w' : World} {g B0 B1 : Nat} {N : Nd} {A : Option Addr} {nl : Nat} {Z : Nat → Int} {al ab : Addr} {i : Nat}
theorem Ni.below (h : Ni w g B0 B1 N A nl Z al ab i) (hb : Below w.heap.size w w') : Ni w' g B0 B1 N A nl Z al ab i := ⟨h.n.below hb, h.y.below hb, h.ha, h.hi, h.hb, h.hj⟩
theorem Ni.cells (h : Ni w g B0 B1 N A nl Z al ab i) : w.cell? ⟨g, 0, none⟩ = some (.slice (some ab) N.n N.c) ∧ w.cell? (ab.add (i * 3)) = some (.string (N.b i).nm) ∧ w.cell? ⟨(ab.add (i * 3)).block, (ab.add (i * 3)).off + 1, none⟩ = some (.slice (N.b i).A (N.b i).n (N.b i).c) ∧ w.cell? ⟨(ab.add (i * 3)).block, (ab.add (i * 3)).off + 2, none⟩ = some (.int .i64 (N.b i).rim) ∧ w.cell? (al.add i) = some (.int .i64 (Z i)) := by
  obtain ⟨b0, b1, b2⟩ := h.n.cells
  obtain ⟨ad', hA, _, q0⟩ := h.y.at_ i h.hi
  rw [h.ha] at hA
  injection hA with hA
  subst hA
  obtain ⟨ad', hA, _, q1, q2, q3, _⟩ := h.n.a.b.at_ i h.hj
  rw [h.hb] at hA b0
  injection hA with hA
  subst hA
  exact ⟨b0, q1, q2, q3, q0⟩
theorem Ni.pa (h : Ni w g B0 B1 N A nl Z al ab i) : Pa w B0 (N.b i).A (N.b i).n (N.b i).F (N.b i).S ∧ (N.b i).n ≤ maxLen := by
  obtain ⟨ad', hA, _, q1, q2, q3, h1, h2, h3⟩ := h.n.a.b.at_ i h.hj
  exact ⟨h1, Nat.le_trans h2 h3⟩
end
theorem lvB_volB {b : Bd} (B : Bas b.F b.S b.n b.rim) {z : Int} (h : InL b z) : lvB b (volB b z) = z := by
  have h1 := below_mono B h.2
  have h0 := below_mono B h.1
  rw [below_floor B (Int.le_refl _)] at h0
  exact (lvB_lev B h0 h1).same B (Lev.of_below B h.1 h.2)
theorem We.of_fill {N : Nd} {W : Wd} {Z : Nat → Int} (h : Cn N 0) (hm : 0 ≤ W.min ∧ W.min ≤ 1000000) (hn : W.n = N.n ∧ W.m = N.k) (hX : W.X = fun i => volB (N.b i) (Z i)) (hZ : ∀ i, i < N.n → InL (N.b i) (Z i)) : We N W 0 := by
  refine ⟨0, h, .inr ⟨rfl, .inr ⟨hm, .inr ⟨hn, .inr ⟨fun i hi => ?_, rfl⟩⟩⟩⟩⟩
  have B := h.bas hi
  have h1 := below_mono B (hZ i hi).2
  have h0 := below_mono B (hZ i hi).1
  rw [below_floor B (Int.le_refl _)] at h0
  unfold LitOk
  rw [hX]
  exact ⟨h0, h1⟩
theorem ints_congr {X Y : Nat → Int} {n : Nat} (h : ∀ i, i < n → X i = Y i) : ints X n = ints Y n := by
  unfold ints
  refine List.map_congr_left fun i hi => ?_
  rw [h i (List.mem_range.1 hi)]

end Go.Proofs.Ytockfiobhmohnaa

namespace Go.Proofs.Ytockfiobhmohnaa
open Go.ChangeShapes Go.WideShapes Go.ChangeAt Go.RowKit Go.Joins Kb Wb


theorem cells_basin : Try.prog.cellsOf 53 = 3 := by kernel_rfl
theorem cells_link : Try.prog.cellsOf 49 = 8 := by kernel_rfl
theorem cells_str : Try.prog.cellsOf 9 = 1 := by kernel_rfl
theorem cells_areas : Try.prog.cellsOf 51 = 1 := by kernel_rfl

section
variable {H : Type} {enc : TypeId × Value → H} {W : World}
theorem basins_of {fuel : Nat} {cs : List Value} {y : DataW H × List MemPlace} (h : DataW.trod enc Try.prog W 0 (fun _ => true) true fuel 22 cs = some y) :
    ∃ A n c b, cs = [.slice A n c] ∧ Bl W W.heap.size A n b ∧ n ≤ c ∧ c ≤ maxLen ∧ ∀ i, i < n → (b i).nm.size ≤ maxLen := by
  rcases Go.Deep.open_slice Try.underlying22 h with ⟨rfl, _⟩ | ⟨a, len, cap, m, n, D, Pl, rfl, _, hl, hm, hmm, _, hx⟩
  · exact ⟨none, 0, 0, fun _ => ⟨s0, none, 0, 0, 0, fun _ => 0, fun _ => 0⟩, rfl, ⟨fun _ hi => absurd hi (Nat.not_lt_zero _), Nat.le_refl _⟩, Nat.le_refl _, Nat.zero_le _, fun _ hi => absurd hi (Nat.not_lt_zero _)⟩
  · have hmc : m = cap := by simpa using hmm
    have key : ∀ i, ∃ b : Bd, i < len → W.cell? (a.add (i * 3)) = some (.string b.nm) ∧ W.cell? ((a.add (i * 3)).add 1) = some (.slice b.A b.n b.c) ∧ W.cell? ((a.add (i * 3)).add 2) = some (.int .i64 b.rim) ∧ Pa W W.heap.size b.A b.n b.F b.S ∧ b.n ≤ b.c ∧ b.c ≤ maxLen ∧ b.nm.size ≤ maxLen := fun i => by
      by_cases hil : i < len
      · obtain ⟨cs', h1, h2⟩ := hx i (by omega)
        rw [cells_basin] at h1
        obtain ⟨_, hlen, hc⟩ := World.cells?_some h1
        match cs', hlen with
        | [v0, v1, v2], _ =>
          obtain ⟨y0, y1, y2, k, _, _, t0, t1, t2⟩ := Go.Deep.trod_struct3 Try.underlying53 h2
          simp only [cells_str, cells_areas, cells_int, List.drop_zero, List.drop_succ_cons, List.take_succ_cons, List.take_zero] at t0 t1 t2
          obtain ⟨s, e0, _, hs⟩ := DataW.trod_string Try.underlying9 t0
          obtain ⟨A, m', c, F, S, e1, hP, hc', hm'⟩ := pairs_of Try.underlying51 Try.underlying96 (by kernel_rfl) rfl rfl rfl rfl t1
          obtain ⟨r, e2, _, _⟩ := DataW.trod_int Try.underlying3 t2
          simp only [List.cons.injEq, and_true] at e0 e1 e2
          subst e0; subst e1; subst e2
          refine ⟨⟨s, A, m', c, r, F, S⟩, fun _ => ⟨?_, ?_, ?_, hP, hc', hm', hs⟩⟩
          · have := hc 0 (by decide); rw [add_of_add] at this; simpa using this
          · simpa using hc 1 (by decide)
          · simpa using hc 2 (by decide)
      · exact ⟨⟨s0, none, 0, 0, 0, fun _ => 0, fun _ => 0⟩, fun hh => absurd hh hil⟩
    refine ⟨some a, len, cap, fun i => Classical.choose (key i), rfl, ⟨fun i hil => ?_, Nat.le_refl _⟩, hl, hm, fun i hil => (Classical.choose_spec (key i) hil).2.2.2.2.2.2⟩
    obtain ⟨c0, c1, c2, hP, k1, k2, _⟩ := Classical.choose_spec (key i) hil
    have hb := World.block_lt_of_cell? W _ c0
    rw [block_of_add] at hb
    exact ⟨a, rfl, hb, c0, by rw [← add_at (a.add (i * 3)) 0]; exact c1, by rw [← add_at (a.add (i * 3)) 1]; exact c2, hP, k1, k2⟩

theorem trod_struct8 {t : TypeId} {f0 f1 f2 f3 f4 f5 f6 f7 : Field} {fuel : Nat} {cs : List Value} {x : DataW H × List MemPlace} (ht : Try.prog.underlying t = some (.struct #[f0, f1, f2, f3, f4, f5, f6, f7])) (h : DataW.trod enc Try.prog W 0 (fun _ => true) true fuel t cs = some x) :
    ∃ y0 y1 y2 y3 y4 y5 y6 y7 n, DataW.trod enc Try.prog W 0 (fun _ => true) true n f0.type ((cs.drop f0.offset).take (Try.prog.cellsOf f0.type)) = some y0 ∧ DataW.trod enc Try.prog W 0 (fun _ => true) true n f1.type ((cs.drop f1.offset).take (Try.prog.cellsOf f1.type)) = some y1 ∧ DataW.trod enc Try.prog W 0 (fun _ => true) true n f2.type ((cs.drop f2.offset).take (Try.prog.cellsOf f2.type)) = some y2 ∧ DataW.trod enc Try.prog W 0 (fun _ => true) true n f3.type ((cs.drop f3.offset).take (Try.prog.cellsOf f3.type)) = some y3 ∧ DataW.trod enc Try.prog W 0 (fun _ => true) true n f4.type ((cs.drop f4.offset).take (Try.prog.cellsOf f4.type)) = some y4 ∧ DataW.trod enc Try.prog W 0 (fun _ => true) true n f5.type ((cs.drop f5.offset).take (Try.prog.cellsOf f5.type)) = some y5 ∧ DataW.trod enc Try.prog W 0 (fun _ => true) true n f6.type ((cs.drop f6.offset).take (Try.prog.cellsOf f6.type)) = some y6 ∧ DataW.trod enc Try.prog W 0 (fun _ => true) true n f7.type ((cs.drop f7.offset).take (Try.prog.cellsOf f7.type)) = some y7 := by
  obtain ⟨xs, n, _, _, _, hlen, hf⟩ := DataW.trod_struct ht h
  match xs, hlen with
  | [y0, y1, y2, y3, y4, y5, y6, y7], _ => exact ⟨y0, y1, y2, y3, y4, y5, y6, y7, n, by simpa using hf 0 f0 rfl, by simpa using hf 1 f1 rfl, by simpa using hf 2 f2 rfl, by simpa using hf 3 f3 rfl, by simpa using hf 4 f4 rfl, by simpa using hf 5 f5 rfl, by simpa using hf 6 f6 rfl, by simpa using hf 7 f7 rfl⟩

theorem links_of {fuel : Nat} {cs : List Value} {y : DataW H × List MemPlace} (h : DataW.trod enc Try.prog W 0 (fun _ => true) true fuel 24 cs = some y) :
    ∃ A n c l, cs = [.slice A n c] ∧ Ll W W.heap.size A n l ∧ n ≤ c ∧ c ≤ maxLen ∧ ∀ i, i < n → (l i).nm.size ≤ maxLen ∧ (l i).fr.size ≤ maxLen ∧ (l i).tw.size ≤ maxLen := by
  rcases Go.Deep.open_slice Try.underlying24 h with ⟨rfl, _⟩ | ⟨a, len, cap, m, n, D, Pl, rfl, _, hl, hm, hmm, _, hx⟩
  · exact ⟨none, 0, 0, fun _ => ⟨s0, 0, s0, s0, 0, 0, 0, 0⟩, rfl, ⟨fun _ hi => absurd hi (Nat.not_lt_zero _), Nat.le_refl _⟩, Nat.le_refl _, Nat.zero_le _, fun _ hi => absurd hi (Nat.not_lt_zero _)⟩
  · have hmc : m = cap := by simpa using hmm
    have key : ∀ i, ∃ b : Ld, i < len → W.cell? (a.add (i * 8)) = some (.string b.nm) ∧ W.cell? ((a.add (i * 8)).add 1) = some (.int .i64 b.kind) ∧ W.cell? ((a.add (i * 8)).add 2) = some (.string b.fr) ∧ W.cell? ((a.add (i * 8)).add 3) = some (.string b.tw) ∧ W.cell? ((a.add (i * 8)).add 4) = some (.int .i64 b.sill) ∧ W.cell? ((a.add (i * 8)).add 5) = some (.int .i64 b.rate) ∧ W.cell? ((a.add (i * 8)).add 6) = some (.int .i64 b.fac) ∧ W.cell? ((a.add (i * 8)).add 7) = some (.int .i64 b.lift) ∧ b.nm.size ≤ maxLen ∧ b.fr.size ≤ maxLen ∧ b.tw.size ≤ maxLen := fun i => by
      by_cases hil : i < len
      · obtain ⟨cs', h1, h2⟩ := hx i (by omega)
        rw [cells_link] at h1
        obtain ⟨_, hlen, hc⟩ := World.cells?_some h1
        match cs', hlen with
        | [v0, v1, v2, v3, v4, v5, v6, v7], _ =>
          obtain ⟨y0, y1, y2, y3, y4, y5, y6, y7, k, t0, t1, t2, t3, t4, t5, t6, t7⟩ := trod_struct8 Try.underlying49 h2
          simp only [cells_str, cells_int, List.drop_zero, List.drop_succ_cons, List.take_succ_cons, List.take_zero] at t0 t1 t2 t3 t4 t5 t6 t7
          obtain ⟨z0, e0, _, k0⟩ := DataW.trod_string Try.underlying9 t0
          obtain ⟨z1, e1, _, _⟩ := DataW.trod_int Try.underlying3 t1
          obtain ⟨z2, e2, _, k2⟩ := DataW.trod_string Try.underlying9 t2
          obtain ⟨z3, e3, _, k3⟩ := DataW.trod_string Try.underlying9 t3
          obtain ⟨z4, e4, _, _⟩ := DataW.trod_int Try.underlying3 t4
          obtain ⟨z5, e5, _, _⟩ := DataW.trod_int Try.underlying3 t5
          obtain ⟨z6, e6, _, _⟩ := DataW.trod_int Try.underlying3 t6
          obtain ⟨z7, e7, _, _⟩ := DataW.trod_int Try.underlying3 t7
          simp only [List.cons.injEq, and_true] at e0 e1 e2 e3 e4 e5 e6 e7
          subst e0; subst e1; subst e2; subst e3; subst e4; subst e5; subst e6; subst e7
          refine ⟨⟨z0, z1, z2, z3, z4, z5, z6, z7⟩, fun _ => ⟨?_, ?_, ?_, ?_, ?_, ?_, ?_, ?_, k0, k2, k3⟩⟩
          · have := hc 0 (by decide); rw [add_of_add] at this; simpa using this
          · simpa using hc 1 (by decide)
          · simpa using hc 2 (by decide)
          · simpa using hc 3 (by decide)
          · simpa using hc 4 (by decide)
          · simpa using hc 5 (by decide)
          · simpa using hc 6 (by decide)
          · simpa using hc 7 (by decide)
      · exact ⟨⟨s0, 0, s0, s0, 0, 0, 0, 0⟩, fun hh => absurd hh hil⟩
    refine ⟨some a, len, cap, fun i => Classical.choose (key i), rfl, ⟨fun i hil => ?_, Nat.le_refl _⟩, hl, hm, fun i hil => (Classical.choose_spec (key i) hil).2.2.2.2.2.2.2.2⟩
    obtain ⟨c0, c1, c2, c3, c4, c5, c6, c7, _⟩ := Classical.choose_spec (key i) hil
    have hb := World.block_lt_of_cell? W _ c0
    rw [block_of_add] at hb
    exact ⟨a, rfl, hb, c0, by rw [← add_at (a.add (i * 8)) 0]; exact c1, by rw [← add_at (a.add (i * 8)) 1]; exact c2, by rw [← add_at (a.add (i * 8)) 2]; exact c3, by rw [← add_at (a.add (i * 8)) 3]; exact c4, by rw [← add_at (a.add (i * 8)) 4]; exact c5, by rw [← add_at (a.add (i * 8)) 5]; exact c6, by rw [← add_at (a.add (i * 8)) 6]; exact c7⟩

theorem nums_of {fuel : Nat} {cs : List Value} {y : DataW H × List MemPlace} (h : DataW.trod enc Try.prog W 0 (fun _ => true) true fuel 27 cs = some y) :
    ∃ A n c Z, cs = [.slice A n c] ∧ Ys W W.heap.size A n Z ∧ n ≤ c ∧ c ≤ maxLen := by
  rcases open_ints Try.underlying27 Try.underlying3 cells_int h with ⟨rfl, _⟩ | ⟨a, len, cap, zs, rfl, _, hl, hm, hz, _, hi, _⟩
  · exact ⟨none, 0, 0, fun _ => 0, rfl, ⟨fun _ hi => absurd hi (Nat.not_lt_zero _), Nat.le_refl _⟩, Nat.le_refl _, Nat.zero_le _⟩
  · have hzc : zs.length = cap := by simpa using hz
    refine ⟨some a, len, cap, fun i => zs.getD i 0, rfl, ⟨fun i hil => ?_, Nat.le_refl _⟩, hl, hm⟩
    have c0 := hi i (by omega)
    have hb := World.block_lt_of_cell? W _ c0
    rw [block_of_add] at hb
    exact ⟨a, rfl, hb, c0⟩

set_option maxRecDepth 100000 in
theorem open_Network {base : Nat} {v : Value} {d : DataW H} {p : List MemPlace} (hv : Value.okWide Try.prog W .any base 26 v) (h : DataW.Trod enc Try.prog W 0 (fun _ => true) true 26 v d p) :
    ∃ N : Nd, v = .agg #[.slice N.A N.n N.c, .slice N.M N.m N.d, .slice N.K N.k N.e] ∧ Nt W W.heap.size N ∧ (∀ i, i < N.k → (N.l i).nm.size ≤ maxLen ∧ (N.l i).fr.size ≤ maxLen ∧ (N.l i).tw.size ≤ maxLen) ∧ ∀ i, i < N.n → (N.b i).nm.size ≤ maxLen := by
  obtain ⟨v0, v1, v2, y0, y1, y2, n, rfl, _, _, h0, h1, h2⟩ := open_agg3 Try.underlying26 (by kernel_rfl) (by kernel_rfl) hv h
  obtain ⟨A, m0, c0, b, e0, hB, hb1, hb2, hb3⟩ := basins_of h0
  obtain ⟨M, m1, c1, F, S, e1, hP, hp1, hp2⟩ := pairs_of Try.underlying23 Try.underlying110 (by kernel_rfl) rfl rfl rfl rfl h1
  obtain ⟨K, m2, c2, l, e2, hL, hl1, hl2, hl3⟩ := links_of h2
  simp only [List.cons.injEq, and_true] at e0 e1 e2
  subst e0; subst e1; subst e2
  exact ⟨⟨A, m0, c0, b, M, m1, c1, F, S, K, m2, c2, l⟩, rfl, ⟨hB, hP, hL, hb1, hb2, hp1, hp2, hl1, hl2⟩, hl3, hb3⟩
set_option maxRecDepth 100000 in
theorem open_Nums {base : Nat} {v : Value} {d : DataW H} {p : List MemPlace} (hv : Value.okWide Try.prog W .any base 27 v) (h : DataW.Trod enc Try.prog W 0 (fun _ => true) true 27 v d p) :
    ∃ A n c Z, v = .slice A n c ∧ Ys W W.heap.size A n Z ∧ n ≤ c ∧ c ≤ maxLen := by
  obtain ⟨a, len, cap, rfl⟩ := okWide_slice Try.underlying27 hv
  obtain ⟨fuel, hf⟩ := h
  obtain ⟨A, n, c, Z, e, hY, h1, h2⟩ := nums_of hf
  simp only [Value.cells, List.cons.injEq, and_true] at e
  exact ⟨A, n, c, Z, e, hY, h1, h2⟩
end

end Go.Proofs.Ytockfiobhmohnaa

