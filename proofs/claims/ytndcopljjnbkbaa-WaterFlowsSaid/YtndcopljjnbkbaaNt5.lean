/- Networks: CheckNetwork of the program and of the reference. For all networks whose lists are not endless. -/
import Derived.Test.YtndcopljjnbkbaaNt4
namespace Go.Proofs.Ytndcopljjnbkbaa
open Go.RowKit Go.Maps Kb Wb

theorem first_bad (P : Nat → Prop) : ∀ n, (∀ j, j < n → P j) ∨ ∃ i, i < n ∧ (∀ j, j < i → P j) ∧ ¬ P i
  | 0 => .inl fun j hj => absurd hj (Nat.not_lt_zero _)
  | n + 1 => by
    rcases first_bad P n with h | ⟨i, h1, h2, h3⟩
    · by_cases hn : P n
      · exact .inl fun j hj => by
          by_cases e : j = n
          · subst e; exact hn
          · exact h j (by omega)
      · exact .inr ⟨n, by omega, h, hn⟩
    · exact .inr ⟨i, by omega, h2, h3⟩
theorem Sz.exists (n : Nat) (F S : Nat → Int) (rim : Int) : ∃ r, Sz n F S rim r := by
  by_cases h : 1 ≤ n ∧ n ≤ 20
  · rcases first_bad (Ga F S) n with h1 | ⟨i, h1, h2, h3⟩
    · by_cases h4 : F (n - 1) < rim ∧ rim ≤ 1000000
      · exact ⟨0, .inr ⟨h, .inr ⟨h1, .inr ⟨h4, rfl⟩⟩⟩⟩
      · exact ⟨2, .inr ⟨h, .inr ⟨h1, .inl ⟨h4, rfl⟩⟩⟩⟩
    · by_cases h4 : Rg F S i
      · have h5 : 0 < i ∧ F i ≤ F (i - 1) := by
          refine ⟨Nat.pos_of_ne_zero fun e => h3 ⟨h4, fun h => by omega⟩, ?_⟩
          exact Classical.byContradiction fun e => h3 ⟨h4, fun _ => by omega⟩
        exact ⟨10, .inr ⟨h, .inl ⟨i, h1, h2, .inr ⟨h4, h5.1, h5.2, rfl⟩⟩⟩⟩
      · exact ⟨2, .inr ⟨h, .inl ⟨i, h1, h2, .inl ⟨h4, rfl⟩⟩⟩⟩
  · exact ⟨2, .inl ⟨h, rfl⟩⟩
theorem Cs.exists (n : Nat) (F L : Nat → Int) : ∃ r, Cs n F L r := by
  by_cases h : 400 < n
  · exact ⟨8, .inl ⟨h, rfl⟩⟩
  · rcases first_bad (Gm F L) n with h1 | ⟨i, h1, h2, h3⟩
    · exact ⟨0, .inr ⟨by omega, .inr ⟨h1, rfl⟩⟩⟩
    · by_cases h4 : Rm F L i
      · have h5 : 0 < i ∧ F i ≤ F (i - 1) := by
          refine ⟨Nat.pos_of_ne_zero fun e => h3 ⟨h4, fun h => by omega⟩, ?_⟩
          exact Classical.byContradiction fun e => h3 ⟨h4, fun _ => by omega⟩
        exact ⟨10, .inr ⟨by omega, .inl ⟨i, h1, h2, .inr ⟨h4, h5.1, h5.2, rfl⟩⟩⟩⟩
      · exact ⟨2, .inr ⟨by omega, .inl ⟨i, h1, h2, .inl ⟨h4, rfl⟩⟩⟩⟩
theorem Lsg.exists (most n : Nat) (nm : Nat → ByteArray) (own : Nat → Int → Prop) (ht : ∀ i, ∃ r, own i r) : ∃ r, Lsg most n nm own r := by
  by_cases h : most < n
  · exact ⟨8, .inl ⟨h, rfl⟩⟩
  · rcases first_bad (LGood nm own) n with h1 | ⟨i, h1, h2, h3⟩
    · exact ⟨0, .inr ⟨by omega, .inr ⟨h1, rfl⟩⟩⟩
    · suffices H : ∃ r, LBad nm own i r by
        obtain ⟨r, hr⟩ := H
        exact ⟨r, .inr ⟨by omega, .inl ⟨i, h1, h2, hr⟩⟩⟩
      by_cases h4 : nameB (nm i) = true
      · by_cases h5 : ∃ k, k < i ∧ nm k = nm i
        · exact ⟨5, .inr (.inl ⟨h4, h5, rfl⟩)⟩
        · obtain ⟨r, hr⟩ := ht i
          have h6 : ∀ k, k < i → nm k ≠ nm i := fun k a b => h5 ⟨k, a, b⟩
          refine ⟨r, .inr (.inr ⟨h4, h6, hr, fun e => h3 ⟨h4, h6, by rw [← e]; exact hr⟩⟩)⟩
      · exact ⟨4, .inl ⟨Bool.eq_false_iff.2 h4, rfl⟩⟩

/-- What is said of the list of basins, and of links. -/
abbrev Bq (N : Nd) (q : Int) : Prop := Lsg 8 N.n (fun i => (N.b i).nm) (fun i r => Sz (N.b i).n (N.b i).F (N.b i).S (N.b i).rim r) q
abbrev Kq (N : Nd) (q : Int) : Prop := Lsg 12 N.k (fun i => (N.l i).nm) (fun i r => r = lkE N (N.l i)) q
theorem Bq.same {N : Nd} {p q : Int} (h : Bq N p) (k : Bq N q) : p = q := Lsg.same (fun _ _ _ a b => a.same b) h k
theorem Kq.same {N : Nd} {p q : Int} (h : Kq N p) (k : Kq N q) : p = q := Lsg.same (fun _ _ _ a b => a.trans b.symm) h k
/-- The first error of three. -/
def cnE (a b c : Int) : Int := if a ≠ 0 then a else if b ≠ 0 then b else c
/-- q is the error of a network. -/
def Cn (N : Nd) (q : Int) : Prop := ∃ a b c, Bq N a ∧ Cs N.m N.F N.L b ∧ Kq N c ∧ q = cnE a b c
theorem Cn.same {N : Nd} {p q : Int} (h : Cn N p) (k : Cn N q) : p = q := by
  obtain ⟨a, b, c, h1, h2, h3, rfl⟩ := h
  obtain ⟨a', b', c', k1, k2, k3, rfl⟩ := k
  rw [h1.same k1, h2.same k2, h3.same k3]
theorem Cn.zero {N : Nd} (h : Cn N 0) : Bq N 0 ∧ Cs N.m N.F N.L 0 ∧ Kq N 0 := by
  obtain ⟨a, b, c, h1, h2, h3, e⟩ := h
  unfold cnE at e
  by_cases ha : a = 0
  · by_cases hb : b = 0
    · subst ha; subst hb
      simp only [ne_eq, not_true_eq_false, if_false] at e
      subst e
      exact ⟨h1, h2, h3⟩
    · rw [if_neg (fun h => h ha), if_pos hb] at e
      exact absurd e.symm hb
  · rw [if_pos ha] at e
    exact absurd e.symm ha

/-- A network whose names are short. -/
structure Nsm (N : Nd) : Prop where
  n : N.n ≤ 1000
  k : N.k ≤ 1000
  b : ∀ i, i < N.n → (N.b i).nm.size ≤ 1000
  l : ∀ i, i < N.k → (N.l i).nm.size ≤ 1000
section
variable {w : World} {B0 : Nat} {N : Nd}
set_option maxRecDepth 100000 in
theorem basinsError_is {q : Int} (hq : Hid (Bq N q)) (h : Nt w B0 N) (hs : Nsm N) :
    Calls Try.prog 48 #[.slice N.A N.n N.c] w fun e w' => e = .returned (.int .i64 q) ∧ Below w.heap.size w w' := by
  have Hh := hid h
  clear h
  go_enter Try.func48, Try.ntmps48
  go_wp2_with fail
  refine (ListB_any Hh.out.b hs.n (fun i hi => Nat.le_trans (hs.b i hi) (by decide))).mono ?_
  rintro e w2 ⟨r, rfl, hr, hb⟩
  obtain rfl := Bq.same (N := N) hr.out hq.out
  have HB := hid hb
  clear hb hr
  go_wp2
  go_ret
  exact ⟨rfl, HB.out⟩
set_option maxRecDepth 100000 in
theorem linksError_is {q : Int} (hq : Hid (Kq N q)) (h : Nt w B0 N) (hs : Nsm N) :
    Calls Try.prog 50 #[.agg #[.slice N.A N.n N.c, .slice N.M N.m N.d, .slice N.K N.k N.e]] w fun e w' => e = .returned (.int .i64 q) ∧ Below w.heap.size w w' := by
  obtain ⟨g, hg⟩ : ∃ g, w.heap.size = g := ⟨_, rfl⟩
  have hb0 := alo (W := w) (o := .cells #[.slice N.A N.n N.c, .slice N.M N.m N.d, .slice N.K N.k N.e] 26)
  have K1 := Nb.new h hg
  go_enter Try.func50, Try.ntmps50
  go_wp2_with fail
  generalize w.alloc (.cells #[.slice N.A N.n N.c, .slice N.M N.m N.d, .slice N.K N.k N.e] 26) = W0 at *
  have HB0 := hid hb0
  have Hh := hid h
  have Hg := hid hg
  clear hb0 h hg
  refine (ListL_any K1.a.l hs.k (fun i hi => Nat.le_trans (hs.l i hi) (by decide)) K1 hs.n).mono ?_
  rintro e w2 ⟨r, rfl, hr, hb⟩
  obtain rfl := Kq.same (N := N) hr.out hq.out
  have HB := hid (bthen HB0.out hb (Nat.le_refl _))
  clear hb hr K1
  go_wp2
  go_ret
  exact ⟨rfl, HB.out⟩
theorem CheckSea_is {q : Int} {n c : Nat} {A : Option Addr} {F L : Nat → Int} (hq : Hid (Cs n F L q)) (h : Pa w B0 A n F L) (hn : n ≤ maxLen) :
    Calls Try.prog 49 #[.slice A n c] w fun e w' => e = .returned (.int .i64 q) ∧ Below w.heap.size w w' :=
  (CheckSea_any h hn).mono fun _ _ ⟨r, he, hr, hb⟩ => ⟨by rw [he, hr.out.same hq.out], hb⟩
theorem rCheckSea_is {q : Int} {n c : Nat} {A : Option Addr} {F L : Nat → Int} (hq : Hid (Cs n F L q)) (h : Pa w B0 A n F L) (hn : n ≤ maxLen) :
    Calls Try.prog 42 #[.slice A n c] w fun e w' => e = .returned (.int .i64 q) ∧ Below w.heap.size w w' :=
  (rCheckSea_any h hn).mono fun _ _ ⟨r, he, hr, hb⟩ => ⟨by rw [he, hr.out.same hq.out], hb⟩
theorem fe3 (W : World) (a b c : Int) : Calls Try.prog 47 #[.slice (some ⟨W.heap.size, 0, none⟩) 3 3] (W.alloc (.cells #[.int .i64 a, .int .i64 b, .int .i64 c] 34)) fun e w' => e = .returned (.int .i64 (cnE a b c)) ∧ (W.alloc (.cells #[.int .i64 a, .int .i64 b, .int .i64 c] 34)) = w' := by
  have hh := fun i => cell_of_row _ _ i _ _ _ (Bk.of_alloc W (.cells #[.int .i64 a, .int .i64 b, .int .i64 c] 34) rfl)
  refine (FirstError_any (X := fun i => match i with | 0 => a | 1 => b | _ => c) (fun i hi => ?_) (by decide)).mono fun e w' ⟨r, he, hr, hw⟩ => ⟨?_, hw⟩
  · match i, hi with
    | 0, _ => exact ⟨_, rfl, (hh 0).trans rfl⟩
    | 1, _ => exact ⟨_, rfl, (hh 1).trans rfl⟩
    | 2, _ => exact ⟨_, rfl, (hh 2).trans rfl⟩
  · rw [he]
    congr 2
    unfold cnE
    rcases hr.out with ⟨i, hi, h1, h2, rfl⟩ | ⟨h1, rfl⟩
    · match i, hi with
      | 0, _ => exact (if_pos h2).symm
      | 1, _ =>
        have a0 : a = 0 := h1 0 (by decide)
        rw [if_neg (fun h => h a0)]
        exact (if_pos h2).symm
      | 2, _ =>
        have a0 : a = 0 := h1 0 (by decide)
        have b0 : b = 0 := h1 1 (by decide)
        rw [if_neg (fun h => h a0), if_neg (fun h => h b0)]
        rfl
    · have a0 : a = 0 := h1 0 (by decide)
      have b0 : b = 0 := h1 1 (by decide)
      have c0 : c = 0 := h1 2 (by decide)
      rw [if_neg (fun h => h a0), if_neg (fun h => h b0), c0]
end

set_option maxRecDepth 100000 in
set_option maxHeartbeats 8000000 in
theorem CheckNetwork_any {w : World} {B0 : Nat} {N : Nd} (h : Nt w B0 N) (hs : Nsm N) :
    Calls Try.prog 12 #[.agg #[.slice N.A N.n N.c, .slice N.M N.m N.d, .slice N.K N.k N.e]] w fun e w' => ∃ q : Int, e = .returned (.int .i64 q) ∧ Hid (Cn N q) ∧ Below w.heap.size w w' := by
  obtain ⟨qa, ha'⟩ := Lsg.exists 8 N.n (fun i => (N.b i).nm) (fun i r => Sz (N.b i).n (N.b i).F (N.b i).S (N.b i).rim r) (fun i => Sz.exists _ _ _ _)
  obtain ⟨qb, hb'⟩ := Cs.exists N.m N.F N.L
  obtain ⟨qc, hc'⟩ := Lsg.exists 12 N.k (fun i => (N.l i).nm) (fun i r => r = lkE N (N.l i)) (fun i => ⟨_, rfl⟩)
  have HE := hid (show Cn N (cnE qa qb qc) from ⟨qa, qb, qc, ha', hb', hc', rfl⟩)
  have QA := hid (show Bq N qa from ha')
  have QB := hid hb'
  have QC := hid (show Kq N qc from hc')
  have HM := hid (Nat.le_trans h.md h.dm)
  clear ha' hb' hc'
  obtain ⟨g, hg⟩ : ∃ g, w.heap.size = g := ⟨_, rfl⟩
  have hb0 := alo (W := w) (o := .cells #[.slice N.A N.n N.c, .slice N.M N.m N.d, .slice N.K N.k N.e] 26)
  have K1 := Nb.new h hg
  go_enter Try.func12, Try.ntmps12
  go_wp2_with fail
  generalize w.alloc (.cells #[.slice N.A N.n N.c, .slice N.M N.m N.d, .slice N.K N.k N.e] 26) = W0 at *
  have HB0 := hid hb0
  have Hh := hid h
  have Hg := hid hg
  clear hb0 h hg
  have D0 : Nb W0.drew g B0 N := K1.below dr0
  clear K1
  go_region_held3 (fun w' => w'.cell? ⟨g, 0, none⟩ = some (.slice N.A N.n N.c) ∧ w'.cell? ⟨g, 1, none⟩ = some (.slice N.M N.m N.d) ∧ w'.cell? ⟨g, 2, none⟩ = some (.slice N.K N.k N.e)) (first | with_reducible exact Nb.cells D0 | with_reducible exact Nb.cells D1 | with_reducible exact Nb.cells D2 | with_reducible exact Nb.cells D3 | with_reducible exact Nb.cells (Nb.below D3 alo)) (first
    | (go_at_call 48; with_reducible refine (basinsError_is QA D0.a hs).mono ?_; rintro e w1 ⟨rfl, hb1⟩; have D1 := D0.below hb1)
    | (go_at_call 49; with_reducible refine (CheckSea_is QB D0.a.s HM.out).mono ?_; rintro e w1 ⟨rfl, hb1⟩; have D1 := D0.below hb1)
    | (go_at_call 50; with_reducible refine (linksError_is QC D0.a hs).mono ?_; rintro e w1 ⟨rfl, hb1⟩; have D1 := D0.below hb1)
    | (go_at_call 48; with_reducible refine (basinsError_is QA D1.a hs).mono ?_; rintro e w2 ⟨rfl, hb2⟩; have D2 := D1.below hb2)
    | (go_at_call 49; with_reducible refine (CheckSea_is QB D1.a.s HM.out).mono ?_; rintro e w2 ⟨rfl, hb2⟩; have D2 := D1.below hb2)
    | (go_at_call 50; with_reducible refine (linksError_is QC D1.a hs).mono ?_; rintro e w2 ⟨rfl, hb2⟩; have D2 := D1.below hb2)
    | (go_at_call 48; with_reducible refine (basinsError_is QA D2.a hs).mono ?_; rintro e w3 ⟨rfl, hb3⟩; have D3 := D2.below hb3)
    | (go_at_call 49; with_reducible refine (CheckSea_is QB D2.a.s HM.out).mono ?_; rintro e w3 ⟨rfl, hb3⟩; have D3 := D2.below hb3)
    | (go_at_call 50; with_reducible refine (linksError_is QC D2.a hs).mono ?_; rintro e w3 ⟨rfl, hb3⟩; have D3 := D2.below hb3)
    | (go_at_call 47; with_reducible refine (fe3 _ qa qb qc).mono ?_; rintro e w4 ⟨rfl, rfl⟩))
  all_goals
    have hb4 := bthen (bthen (bthen HB0.out.drew hb1 (Nat.le_refl _)) hb2 (Nat.le_refl _)) hb3 (Nat.le_refl _)
    have HB := hid (hb4.alloc hb4.size (.cells #[.int .i64 qa, .int .i64 qb, .int .i64 qc] 34))
    clear hb1 hb2 hb3 hb4
    go_wp2
    go_ret
    exact ⟨_, rfl, HE, HB.out⟩

end Go.Proofs.Ytndcopljjnbkbaa
