/- Networks: the error of a link: isEnd, endsError, rateError; side, checkLink. For all networks and links. -/
import Derived.Test.YtndcopljjnbkbaaNt1
namespace Go.Proofs.Ytndcopljjnbkbaa
open Go.RowKit Kb Wb

/-- A link in a box. -/
structure Lb (w : World) (g : Nat) (l : Ld) : Prop where
  b : Bk w g (.cells #[.string l.nm, .int .i64 l.kind, .string l.fr, .string l.tw, .int .i64 l.sill, .int .i64 l.rate, .int .i64 l.fac, .int .i64 l.lift] 59)
theorem Lb.below {w w' : World} {g : Nat} {l : Ld} (h : Lb w g l) (hb : Below w.heap.size w w') : Lb w' g l := ⟨h.b.step hb⟩
theorem Lb.cells {w : World} {g : Nat} {l : Ld} (h : Lb w g l) : w.cell? ⟨g, 0, none⟩ = some (.string l.nm) ∧ w.cell? ⟨g, 1, none⟩ = some (.int .i64 l.kind) ∧ w.cell? ⟨g, 2, none⟩ = some (.string l.fr) ∧ w.cell? ⟨g, 3, none⟩ = some (.string l.tw) ∧ w.cell? ⟨g, 4, none⟩ = some (.int .i64 l.sill) ∧ w.cell? ⟨g, 5, none⟩ = some (.int .i64 l.rate) ∧ w.cell? ⟨g, 6, none⟩ = some (.int .i64 l.fac) ∧ w.cell? ⟨g, 7, none⟩ = some (.int .i64 l.lift) := by
  have hh := fun i => cell_of_row w g i _ 59 (0, 0) h.b
  exact ⟨(hh 0).trans rfl, (hh 1).trans rfl, (hh 2).trans rfl, (hh 3).trans rfl, (hh 4).trans rfl, (hh 5).trans rfl, (hh 6).trans rfl, (hh 7).trans rfl⟩

/-- Whether a name is that of a side of links. -/
noncomputable def endB (N : Nd) (s : ByteArray) : Bool := @decide (s = s0 ∨ ∃ j, j < N.n ∧ N.bnm j = s) (Classical.propDecidable _)
theorem endB_t {N : Nd} {s : ByteArray} (h : s = s0 ∨ ∃ j, j < N.n ∧ N.bnm j = s) : endB N s = true := @decide_eq_true _ (Classical.propDecidable _) h
theorem endB_f {N : Nd} {s : ByteArray} (h : ¬ (s = s0 ∨ ∃ j, j < N.n ∧ N.bnm j = s)) : endB N s = false := @decide_eq_false _ (Classical.propDecidable _) h
theorem endB_iff {N : Nd} {s : ByteArray} : endB N s = true ↔ (s = s0 ∨ ∃ j, j < N.n ∧ N.bnm j = s) := @decide_eq_true_iff _ (Classical.propDecidable _)
theorem endB_ix {N : Nd} {s : ByteArray} {r : Int} (h0 : s ≠ s0) (h : Ixn N.n N.bnm s r) : decide (0 ≤ r) = endB N s ∧ -1 ≤ r ∧ r ≤ 1000000000000 ∨ 1000 < N.n := by
  by_cases hn : N.n ≤ 1000
  · refine .inl ?_
    rcases h with ⟨rfl, h⟩ | ⟨j, hj, _, h2, rfl⟩
    · refine ⟨?_, by omega, by omega⟩
      rw [endB_f (fun e => e.elim h0 (fun ⟨j, hj, e⟩ => h j hj e))]
      rfl
    · refine ⟨?_, by omega, by omega⟩
      rw [endB_t (.inr ⟨j, hj, h2⟩)]
      exact decide_eq_true (by omega)
  · exact .inr (by omega)

set_option maxRecDepth 100000 in
set_option maxHeartbeats 4000000 in
theorem isEnd_any {w : World} {B0 : Nat} {N : Nd} (s : ByteArray) (h : Nt w B0 N) (hn : N.n ≤ 1000) :
    Calls Try.prog 100 #[.agg #[.slice N.A N.n N.c, .slice N.M N.m N.d, .slice N.K N.k N.e], .string s] w fun e w' => e = .returned (.bool (endB N s)) ∧ Below w.heap.size w w' := by
  obtain ⟨g, hg⟩ : ∃ g, w.heap.size = g := ⟨_, rfl⟩
  have hb0 := alo (W := w) (o := .cells #[.slice N.A N.n N.c, .slice N.M N.m N.d, .slice N.K N.k N.e] 26)
  have K1 := Nb.new h hg
  by_cases h0 : s = s0
  · have e0 := emp_t h0
    have HE := hid (endB_t (N := N) (.inl h0))
    clear h0
    go_enter Try.func100, Try.ntmps100
    go_wp2
    go_ret
    exact ⟨ret_bool HE.out.symm, hb0⟩
  · have e0 := emp_f h0
    go_enter Try.func100, Try.ntmps100
    go_wp2_with fail
    generalize w.alloc (.cells #[.slice N.A N.n N.c, .slice N.M N.m N.d, .slice N.K N.k N.e] 26) = W0 at *
    have HB0 := hid hb0
    have Hh := hid h
    have Hg := hid hg
    clear hb0 h hg
    refine (findBasin_any s K1.a hn).mono ?_
    rintro e w2 ⟨r, rfl, hr, hb⟩
    have HB := hid (bthen HB0.out hb (Nat.le_refl _))
    clear hb K1
    rcases endB_ix h0 hr.out with ⟨hd, h1, h2⟩ | hx
    · clear h0
      obtain ⟨p, hp⟩ : ∃ p, endB N s = p := ⟨_, rfl⟩
      rw [hp] at hd
      have Hp := hid hp
      clear hp
      go_wp2
      go_ret
      exact ⟨ret_bool Hp.out.symm, HB.out⟩
    · omega

set_option maxRecDepth 100000 in
set_option maxHeartbeats 4000000 in
theorem rside_any {w : World} {B0 : Nat} {N : Nd} (s : ByteArray) (h : Nt w B0 N) (hn : N.n ≤ 1000) :
    Calls Try.prog 76 #[.agg #[.slice N.A N.n N.c, .slice N.M N.m N.d, .slice N.K N.k N.e], .string s] w fun e w' => e = .returned (.bool (endB N s)) ∧ Below w.heap.size w w' := by
  obtain ⟨g, hg⟩ : ∃ g, w.heap.size = g := ⟨_, rfl⟩
  have hb0 := alo (W := w) (o := .cells #[.slice N.A N.n N.c, .slice N.M N.m N.d, .slice N.K N.k N.e] 26)
  have K1 := Nb.new h hg
  by_cases h0 : s = s0
  · have e0 := emp_t h0
    have HE := hid (endB_t (N := N) (.inl h0))
    clear h0
    go_enter Try.func76, Try.ntmps76
    go_wp2
    go_ret
    exact ⟨ret_bool HE.out.symm, hb0⟩
  · have e0 := emp_f h0
    go_enter Try.func76, Try.ntmps76
    go_wp2_with fail
    generalize w.alloc (.cells #[.slice N.A N.n N.c, .slice N.M N.m N.d, .slice N.K N.k N.e] 26) = W0 at *
    have HB0 := hid hb0
    have Hh := hid h
    have Hg := hid hg
    clear hb0 h hg
    refine (rBasin_any s K1.a hn).mono ?_
    rintro e w2 ⟨r, rfl, hr, hb⟩
    have HB := hid (bthen HB0.out hb (Nat.le_refl _))
    clear hb K1
    rcases endB_ix h0 hr.out with ⟨hd, h1, h2⟩ | hx
    · clear h0
      obtain ⟨p, hp⟩ : ∃ p, endB N s = p := ⟨_, rfl⟩
      rw [hp] at hd
      have Hp := hid hp
      clear hp
      go_wp2
      go_ret
      exact ⟨ret_bool Hp.out.symm, HB.out⟩
    · omega

/-- Whether the numbers of a link are within the limits. -/
def rateOk (l : Ld) : Prop := ((l.kind = 0 → (-1000000 ≤ l.sill ∧ l.sill ≤ 1000000) ∧ (0 ≤ l.fac ∧ l.fac ≤ 1000000000)) ∧ (l.kind ≠ 0 → 0 ≤ l.lift ∧ l.lift ≤ 1000000)) ∧ (0 ≤ l.rate ∧ l.rate ≤ 1000000000)
instance (l : Ld) : Decidable (rateOk l) := by unfold rateOk; exact inferInstance
def rateE (l : Ld) : Int := if rateOk l then 0 else 2
open Classical in
noncomputable def endsE (N : Nd) (l : Ld) : Int := if l.kind ≠ 0 ∧ l.kind ≠ 1 then 3 else if ¬ (endB N l.fr = true ∧ endB N l.tw = true) then 6 else if l.fr = l.tw then 3 else if (l.fr = s0 ∨ l.tw = s0) ∧ N.m = 0 then 29 else 0
/-- The error of a link but for its name. -/
noncomputable def lkE (N : Nd) (l : Ld) : Int := if endsE N l ≠ 0 then endsE N l else rateE l

set_option maxRecDepth 100000 in
set_option maxHeartbeats 4000000 in
theorem rateError_any {w : World} (l : Ld) :
    Calls Try.prog 84 #[.agg #[.string l.nm, .int .i64 l.kind, .string l.fr, .string l.tw, .int .i64 l.sill, .int .i64 l.rate, .int .i64 l.fac, .int .i64 l.lift]] w fun e w' => e = .returned (.int .i64 (rateE l)) ∧ Below w.heap.size w w' := by
  have hb0 := alo (W := w) (o := (.cells #[.string l.nm, .int .i64 l.kind, .string l.fr, .string l.tw, .int .i64 l.sill, .int .i64 l.rate, .int .i64 l.fac, .int .i64 l.lift] 59))
  have K : Lb _ _ l := ⟨Bk.of_alloc w (.cells #[.string l.nm, .int .i64 l.kind, .string l.fr, .string l.tw, .int .i64 l.sill, .int .i64 l.rate, .int .i64 l.fac, .int .i64 l.lift] 59) rfl⟩
  obtain ⟨p, hp⟩ : ∃ p, rateE l = p := ⟨_, rfl⟩
  have hok : rateOk l → p = 0 := fun h => by rw [← hp]; exact if_pos h
  have hno : ¬ rateOk l → p = 2 := fun h => by rw [← hp]; exact if_neg h
  rw [hp]
  clear hp
  obtain ⟨x0, x1, x2, x3, x4, x5, x6, x7⟩ := K.cells
  by_cases k0 : l.kind = 0
  · have d0 : (l.kind == 0) = true := by rw [beq_iff_eq]; exact k0
    by_cases h1 : inB l.sill (-1000000) 1000000 = true
    · by_cases h2 : inB l.fac 0 1000000000 = true
      · by_cases h3 : inB l.rate 0 1000000000 = true
        · have e := hok ⟨⟨fun _ => ⟨inB_iff.1 h1, inB_iff.1 h2⟩, fun h => absurd k0 h⟩, inB_iff.1 h3⟩
          subst e
          clear k0 hok hno
          go_enter Try.func84, Try.ntmps84
          go_wp2_with (first | ((with_reducible refine (Within_any _ _ _ _).mono ?_); rintro e w' ⟨rfl, rfl⟩) | ((with_reducible refine (isLevel_any _ _).mono ?_); rintro e w' ⟨rfl, rfl⟩))
          go_ret
          exact ⟨rfl, hb0⟩
        · have e := hno (fun h => h3 (inB_t h.2))
          have h3' := Bool.eq_false_iff.2 h3
          clear h3
          subst e
          clear k0 hok hno
          go_enter Try.func84, Try.ntmps84
          go_wp2_with (first | ((with_reducible refine (Within_any _ _ _ _).mono ?_); rintro e w' ⟨rfl, rfl⟩) | ((with_reducible refine (isLevel_any _ _).mono ?_); rintro e w' ⟨rfl, rfl⟩))
          go_ret
          exact ⟨rfl, hb0⟩
      · have e := hno (fun h => h2 (inB_t (h.1.1 k0).2))
        have h2' := Bool.eq_false_iff.2 h2
        clear h2
        subst e
        clear k0 hok hno
        go_enter Try.func84, Try.ntmps84
        go_wp2_with (first | ((with_reducible refine (Within_any _ _ _ _).mono ?_); rintro e w' ⟨rfl, rfl⟩) | ((with_reducible refine (isLevel_any _ _).mono ?_); rintro e w' ⟨rfl, rfl⟩))
        go_ret
        exact ⟨rfl, hb0⟩
    · have e := hno (fun h => h1 (inB_t (h.1.1 k0).1))
      have h1' := Bool.eq_false_iff.2 h1
      clear h1
      subst e
      clear k0 hok hno
      go_enter Try.func84, Try.ntmps84
      go_wp2_with (first | ((with_reducible refine (Within_any _ _ _ _).mono ?_); rintro e w' ⟨rfl, rfl⟩) | ((with_reducible refine (isLevel_any _ _).mono ?_); rintro e w' ⟨rfl, rfl⟩))
      go_ret
      exact ⟨rfl, hb0⟩
  · have d0 : (l.kind == 0) = false := by rw [beq_eq_false_iff_ne]; exact k0
    by_cases h1 : inB l.lift 0 1000000 = true
    · by_cases h3 : inB l.rate 0 1000000000 = true
      · have e := hok ⟨⟨fun h => absurd h k0, fun _ => inB_iff.1 h1⟩, inB_iff.1 h3⟩
        subst e
        clear k0 hok hno
        go_enter Try.func84, Try.ntmps84
        go_wp2_with (first | ((with_reducible refine (Within_any _ _ _ _).mono ?_); rintro e w' ⟨rfl, rfl⟩) | ((with_reducible refine (isLevel_any _ _).mono ?_); rintro e w' ⟨rfl, rfl⟩))
        go_ret
        exact ⟨rfl, hb0⟩
      · have e := hno (fun h => h3 (inB_t h.2))
        have h3' := Bool.eq_false_iff.2 h3
        clear h3
        subst e
        clear k0 hok hno
        go_enter Try.func84, Try.ntmps84
        go_wp2_with (first | ((with_reducible refine (Within_any _ _ _ _).mono ?_); rintro e w' ⟨rfl, rfl⟩) | ((with_reducible refine (isLevel_any _ _).mono ?_); rintro e w' ⟨rfl, rfl⟩))
        go_ret
        exact ⟨rfl, hb0⟩
    · have e := hno (fun h => h1 (inB_t (h.1.2 k0)))
      have h1' := Bool.eq_false_iff.2 h1
      clear h1
      subst e
      clear k0 hok hno
      go_enter Try.func84, Try.ntmps84
      go_wp2_with (first | ((with_reducible refine (Within_any _ _ _ _).mono ?_); rintro e w' ⟨rfl, rfl⟩) | ((with_reducible refine (isLevel_any _ _).mono ?_); rintro e w' ⟨rfl, rfl⟩))
      go_ret
      exact ⟨rfl, hb0⟩

set_option maxRecDepth 100000 in
set_option maxHeartbeats 8000000 in
theorem endsError_any {w : World} {B0 : Nat} {N : Nd} (l : Ld) (h : Nt w B0 N) (hn : N.n ≤ 1000) :
    Calls Try.prog 83 #[.agg #[.slice N.A N.n N.c, .slice N.M N.m N.d, .slice N.K N.k N.e], .agg #[.string l.nm, .int .i64 l.kind, .string l.fr, .string l.tw, .int .i64 l.sill, .int .i64 l.rate, .int .i64 l.fac, .int .i64 l.lift]] w fun e w' => e = .returned (.int .i64 (endsE N l)) ∧ Below w.heap.size w w' := by
  obtain ⟨g, hg⟩ : ∃ g, w.heap.size = g := ⟨_, rfl⟩
  have hm0 : N.m ≤ 9223372036854775807 := by have := Nat.le_trans h.md h.dm; unfold maxLen at this; omega
  have hb0 := ((Below.refl w.heap.size w).alloc (Nat.le_refl _) (.cells #[.slice N.A N.n N.c, .slice N.M N.m N.d, .slice N.K N.k N.e] 26)).alloc (by simp) (.cells #[.string l.nm, .int .i64 l.kind, .string l.fr, .string l.tw, .int .i64 l.sill, .int .i64 l.rate, .int .i64 l.fac, .int .i64 l.lift] 59)
  have K1 := (Nb.new h hg).below (alo (o := .cells #[.string l.nm, .int .i64 l.kind, .string l.fr, .string l.tw, .int .i64 l.sill, .int .i64 l.rate, .int .i64 l.fac, .int .i64 l.lift] 59))
  have L1 : Lb _ (g + 1) l := ⟨Bk.of_alloc (w.alloc (.cells #[.slice N.A N.n N.c, .slice N.M N.m N.d, .slice N.K N.k N.e] 26)) (.cells #[.string l.nm, .int .i64 l.kind, .string l.fr, .string l.tw, .int .i64 l.sill, .int .i64 l.rate, .int .i64 l.fac, .int .i64 l.lift] 59) (by simp [hg])⟩
  have hE : ∀ v : Int, v ≠ 0 → endsE N l = v → endsE N l = v := fun v h0 h => h
  have hO : endsE N l = 0 → endsE N l = 0 := fun h => h
  have HE := hid hE
  have HO := hid hO
  clear hE hO
  go_enter Try.func83, Try.ntmps83
  go_upto_region 1 with (fail)
  generalize (w.alloc (.cells #[.slice N.A N.n N.c, .slice N.M N.m N.d, .slice N.K N.k N.e] 26)).alloc (.cells #[.string l.nm, .int .i64 l.kind, .string l.fr, .string l.tw, .int .i64 l.sill, .int .i64 l.rate, .int .i64 l.fac, .int .i64 l.lift] 59) = W0 at *
  have HB0 := hid hb0
  have Hh := hid h
  have Hg := hid hg
  clear hb0 h hg
  obtain ⟨x0, x1, x2⟩ := K1.cells
  obtain ⟨y0, y1, y2, y3, y4, y5, y6, y7⟩ := L1.cells
  by_cases hk : l.kind ≠ 0 ∧ l.kind ≠ 1
  · have d0 : (l.kind != 0) = true := by rw [bne_iff_ne]; exact hk.1
    have d1 : (l.kind != 1) = true := by rw [bne_iff_ne]; exact hk.2
    have R := hid (HE.out 3 (by decide) (by unfold endsE; rw [if_pos hk]))
    clear hk
    go_wp2
    go_ret
    exact ⟨ret_int R.out.symm, HB0.out⟩
  · have Hk := hid hk
    by_cases k0 : l.kind = 0
    · have d0 : (l.kind != 0) = false := by rw [bne_eq_false_iff_eq]; exact k0
      have c0 : (l.kind == 0) = true := by rw [beq_iff_eq]; exact k0
      have c1 : (l.kind == 1) = false := by rw [beq_eq_false_iff_ne]; omega
      have K0 := hid k0
      clear k0 hk
      by_cases e1 : endB N l.fr = true
      · by_cases e2 : endB N l.tw = true
        · have e12 := hid (show ¬ ¬ (endB N l.fr = true ∧ endB N l.tw = true) from fun h => h ⟨e1, e2⟩)
          go_wp2_with fail
          refine (isEnd_any l.fr K1.a hn).mono ?_
          rintro e w2 ⟨rfl, hb⟩
          have K2 := K1.below hb
          have L2 := L1.below hb
          have HB2 := hid (bthen HB0.out hb (Nat.le_refl _))
          clear hb x0 x1 x2 y0 y1 y2 y3 y4 y5 y6 y7 K1 L1
          obtain ⟨x0, x1, x2⟩ := K2.cells
          obtain ⟨y0, y1, y2, y3, y4, y5, y6, y7⟩ := L2.cells
          go_wp2_with fail
          refine (isEnd_any l.tw K2.a hn).mono ?_
          rintro e w3 ⟨rfl, hb⟩
          have K3 := K2.below hb
          have L3 := L2.below hb
          have HB3 := hid (bthen HB2.out hb (Nat.le_refl _))
          clear hb x0 x1 x2 y0 y1 y2 y3 y4 y5 y6 y7 K2 L2
          obtain ⟨x0, x1, x2⟩ := K3.cells
          obtain ⟨y0, y1, y2, y3, y4, y5, y6, y7⟩ := L3.cells
          by_cases hft : l.fr = l.tw
          · have ds := str_t hft
            have R := hid (HE.out 3 (by decide) (by unfold endsE; rw [if_neg Hk.out, if_neg e12.out, if_pos hft]))
            clear hft
            go_wp2
            go_ret
            exact ⟨ret_int R.out.symm, HB3.out⟩
          · have ds := str_f hft
            have Hft := hid hft
            clear hft
            by_cases hz : (l.fr = s0 ∨ l.tw = s0) ∧ N.m = 0
            · have R := hid (HE.out 29 (by decide) (by unfold endsE; rw [if_neg Hk.out, if_neg e12.out, if_neg Hft.out, if_pos hz]))
              obtain ⟨hz1, hz2⟩ := hz
              have dm : ((N.m : Int) == 0) = true := by rw [beq_iff_eq]; omega
              have Hz2 := hid hz2
              clear hz2
              by_cases hf : l.fr = s0
              · have df := emp_t hf
                clear hf hz1
                go_wp2
                go_ret
                exact ⟨ret_int R.out.symm, HB3.out⟩
              · have df := emp_f hf
                have dt := emp_t (hz1.elim (fun h => absurd h hf) id)
                clear hf hz1
                go_wp2
                go_ret
                exact ⟨ret_int R.out.symm, HB3.out⟩
            · have R0 := hid (show endsE N l = 0 by unfold endsE; rw [if_neg Hk.out, if_neg e12.out, if_neg Hft.out, if_neg hz])
              have Hz := hid hz
              clear hz
              by_cases hf : l.fr = s0
              · have df := emp_t hf
                have dm : ((N.m : Int) == 0) = false := by rw [beq_eq_false_iff_ne]; exact fun e => Hz.out ⟨.inl hf, by omega⟩
                clear hf
                go_wp2
                go_ret
                exact ⟨ret_int R0.out.symm, HB3.out⟩
              · have df := emp_f hf
                clear hf
                by_cases ht : l.tw = s0
                · have dt := emp_t ht
                  have dm : ((N.m : Int) == 0) = false := by rw [beq_eq_false_iff_ne]; exact fun e => Hz.out ⟨.inr ht, by omega⟩
                  clear ht
                  go_wp2
                  go_ret
                  exact ⟨ret_int R0.out.symm, HB3.out⟩
                · have dt := emp_f ht
                  clear ht
                  go_wp2
                  go_ret
                  exact ⟨ret_int R0.out.symm, HB3.out⟩
        · have e2' := Bool.eq_false_iff.2 e2
          have R := hid (HE.out 6 (by decide) (by unfold endsE; rw [if_neg Hk.out, if_pos (fun h => e2 h.2)]))
          clear e2
          go_wp2_with fail
          refine (isEnd_any l.fr K1.a hn).mono ?_
          rintro e w2 ⟨rfl, hb⟩
          have K2 := K1.below hb
          have L2 := L1.below hb
          have HB2 := hid (bthen HB0.out hb (Nat.le_refl _))
          clear hb x0 x1 x2 y0 y1 y2 y3 y4 y5 y6 y7 K1 L1
          obtain ⟨x0, x1, x2⟩ := K2.cells
          obtain ⟨y0, y1, y2, y3, y4, y5, y6, y7⟩ := L2.cells
          go_wp2_with fail
          refine (isEnd_any l.tw K2.a hn).mono ?_
          rintro e w3 ⟨rfl, hb⟩
          have HB3 := hid (bthen HB2.out hb (Nat.le_refl _))
          clear hb x0 x1 x2 y0 y1 y2 y3 y4 y5 y6 y7 K2 L2
          go_wp2
          go_ret
          exact ⟨ret_int R.out.symm, HB3.out⟩
      · have e1' := Bool.eq_false_iff.2 e1
        have R := hid (HE.out 6 (by decide) (by unfold endsE; rw [if_neg Hk.out, if_pos (fun h => e1 h.1)]))
        clear e1
        go_wp2_with fail
        refine (isEnd_any l.fr K1.a hn).mono ?_
        rintro e w2 ⟨rfl, hb⟩
        have HB2 := hid (bthen HB0.out hb (Nat.le_refl _))
        clear hb x0 x1 x2 y0 y1 y2 y3 y4 y5 y6 y7 K1 L1
        go_wp2
        go_ret
        exact ⟨ret_int R.out.symm, HB2.out⟩
    · have d0 : (l.kind != 0) = true := by rw [bne_iff_ne]; exact k0
      have d1 : (l.kind != 1) = false := by rw [bne_eq_false_iff_eq]; exact Classical.byContradiction fun h1 => hk ⟨k0, h1⟩
      have c0 : (l.kind == 0) = false := by rw [beq_eq_false_iff_ne]; exact k0
      have c1 : (l.kind == 1) = true := by rw [beq_iff_eq]; exact Classical.byContradiction fun h1 => hk ⟨k0, h1⟩
      have K0 := hid k0
      clear k0 hk
      by_cases e1 : endB N l.fr = true
      · by_cases e2 : endB N l.tw = true
        · have e12 := hid (show ¬ ¬ (endB N l.fr = true ∧ endB N l.tw = true) from fun h => h ⟨e1, e2⟩)
          go_wp2_with fail
          refine (isEnd_any l.fr K1.a hn).mono ?_
          rintro e w2 ⟨rfl, hb⟩
          have K2 := K1.below hb
          have L2 := L1.below hb
          have HB2 := hid (bthen HB0.out hb (Nat.le_refl _))
          clear hb x0 x1 x2 y0 y1 y2 y3 y4 y5 y6 y7 K1 L1
          obtain ⟨x0, x1, x2⟩ := K2.cells
          obtain ⟨y0, y1, y2, y3, y4, y5, y6, y7⟩ := L2.cells
          go_wp2_with fail
          refine (isEnd_any l.tw K2.a hn).mono ?_
          rintro e w3 ⟨rfl, hb⟩
          have K3 := K2.below hb
          have L3 := L2.below hb
          have HB3 := hid (bthen HB2.out hb (Nat.le_refl _))
          clear hb x0 x1 x2 y0 y1 y2 y3 y4 y5 y6 y7 K2 L2
          obtain ⟨x0, x1, x2⟩ := K3.cells
          obtain ⟨y0, y1, y2, y3, y4, y5, y6, y7⟩ := L3.cells
          by_cases hft : l.fr = l.tw
          · have ds := str_t hft
            have R := hid (HE.out 3 (by decide) (by unfold endsE; rw [if_neg Hk.out, if_neg e12.out, if_pos hft]))
            clear hft
            go_wp2
            go_ret
            exact ⟨ret_int R.out.symm, HB3.out⟩
          · have ds := str_f hft
            have Hft := hid hft
            clear hft
            by_cases hz : (l.fr = s0 ∨ l.tw = s0) ∧ N.m = 0
            · have R := hid (HE.out 29 (by decide) (by unfold endsE; rw [if_neg Hk.out, if_neg e12.out, if_neg Hft.out, if_pos hz]))
              obtain ⟨hz1, hz2⟩ := hz
              have dm : ((N.m : Int) == 0) = true := by rw [beq_iff_eq]; omega
              have Hz2 := hid hz2
              clear hz2
              by_cases hf : l.fr = s0
              · have df := emp_t hf
                clear hf hz1
                go_wp2
                go_ret
                exact ⟨ret_int R.out.symm, HB3.out⟩
              · have df := emp_f hf
                have dt := emp_t (hz1.elim (fun h => absurd h hf) id)
                clear hf hz1
                go_wp2
                go_ret
                exact ⟨ret_int R.out.symm, HB3.out⟩
            · have R0 := hid (show endsE N l = 0 by unfold endsE; rw [if_neg Hk.out, if_neg e12.out, if_neg Hft.out, if_neg hz])
              have Hz := hid hz
              clear hz
              by_cases hf : l.fr = s0
              · have df := emp_t hf
                have dm : ((N.m : Int) == 0) = false := by rw [beq_eq_false_iff_ne]; exact fun e => Hz.out ⟨.inl hf, by omega⟩
                clear hf
                go_wp2
                go_ret
                exact ⟨ret_int R0.out.symm, HB3.out⟩
              · have df := emp_f hf
                clear hf
                by_cases ht : l.tw = s0
                · have dt := emp_t ht
                  have dm : ((N.m : Int) == 0) = false := by rw [beq_eq_false_iff_ne]; exact fun e => Hz.out ⟨.inr ht, by omega⟩
                  clear ht
                  go_wp2
                  go_ret
                  exact ⟨ret_int R0.out.symm, HB3.out⟩
                · have dt := emp_f ht
                  clear ht
                  go_wp2
                  go_ret
                  exact ⟨ret_int R0.out.symm, HB3.out⟩
        · have e2' := Bool.eq_false_iff.2 e2
          have R := hid (HE.out 6 (by decide) (by unfold endsE; rw [if_neg Hk.out, if_pos (fun h => e2 h.2)]))
          clear e2
          go_wp2_with fail
          refine (isEnd_any l.fr K1.a hn).mono ?_
          rintro e w2 ⟨rfl, hb⟩
          have K2 := K1.below hb
          have L2 := L1.below hb
          have HB2 := hid (bthen HB0.out hb (Nat.le_refl _))
          clear hb x0 x1 x2 y0 y1 y2 y3 y4 y5 y6 y7 K1 L1
          obtain ⟨x0, x1, x2⟩ := K2.cells
          obtain ⟨y0, y1, y2, y3, y4, y5, y6, y7⟩ := L2.cells
          go_wp2_with fail
          refine (isEnd_any l.tw K2.a hn).mono ?_
          rintro e w3 ⟨rfl, hb⟩
          have HB3 := hid (bthen HB2.out hb (Nat.le_refl _))
          clear hb x0 x1 x2 y0 y1 y2 y3 y4 y5 y6 y7 K2 L2
          go_wp2
          go_ret
          exact ⟨ret_int R.out.symm, HB3.out⟩
      · have e1' := Bool.eq_false_iff.2 e1
        have R := hid (HE.out 6 (by decide) (by unfold endsE; rw [if_neg Hk.out, if_pos (fun h => e1 h.1)]))
        clear e1
        go_wp2_with fail
        refine (isEnd_any l.fr K1.a hn).mono ?_
        rintro e w2 ⟨rfl, hb⟩
        have HB2 := hid (bthen HB0.out hb (Nat.le_refl _))
        clear hb x0 x1 x2 y0 y1 y2 y3 y4 y5 y6 y7 K1 L1
        go_wp2
        go_ret
        exact ⟨ret_int R.out.symm, HB2.out⟩

set_option maxRecDepth 100000 in
set_option maxHeartbeats 8000000 in
theorem checkLink_any {w : World} {B0 : Nat} {N : Nd} (l : Ld) (h : Nt w B0 N) (hn : N.n ≤ 1000) :
    Calls Try.prog 43 #[.agg #[.slice N.A N.n N.c, .slice N.M N.m N.d, .slice N.K N.k N.e], .agg #[.string l.nm, .int .i64 l.kind, .string l.fr, .string l.tw, .int .i64 l.sill, .int .i64 l.rate, .int .i64 l.fac, .int .i64 l.lift]] w fun e w' => e = .returned (.int .i64 (lkE N l)) ∧ Below w.heap.size w w' := by
  obtain ⟨g, hg⟩ : ∃ g, w.heap.size = g := ⟨_, rfl⟩
  have hm0 : N.m ≤ 9223372036854775807 := by have := Nat.le_trans h.md h.dm; unfold maxLen at this; omega
  have hb0 := ((Below.refl w.heap.size w).alloc (Nat.le_refl _) (.cells #[.slice N.A N.n N.c, .slice N.M N.m N.d, .slice N.K N.k N.e] 26)).alloc (by simp) (.cells #[.string l.nm, .int .i64 l.kind, .string l.fr, .string l.tw, .int .i64 l.sill, .int .i64 l.rate, .int .i64 l.fac, .int .i64 l.lift] 59)
  have K1 := (Nb.new h hg).below (alo (o := .cells #[.string l.nm, .int .i64 l.kind, .string l.fr, .string l.tw, .int .i64 l.sill, .int .i64 l.rate, .int .i64 l.fac, .int .i64 l.lift] 59))
  have L1 : Lb _ (g + 1) l := ⟨Bk.of_alloc (w.alloc (.cells #[.slice N.A N.n N.c, .slice N.M N.m N.d, .slice N.K N.k N.e] 26)) (.cells #[.string l.nm, .int .i64 l.kind, .string l.fr, .string l.tw, .int .i64 l.sill, .int .i64 l.rate, .int .i64 l.fac, .int .i64 l.lift] 59) (by simp [hg])⟩
  have hE : ∀ v : Int, v ≠ 0 → endsE N l = v → lkE N l = v := fun v h0 h => by unfold lkE; rw [h, if_pos h0]
  have hO : endsE N l = 0 → lkE N l = rateE l := fun h => by unfold lkE; rw [h, if_neg (by decide)]
  have HE := hid hE
  have HO := hid hO
  clear hE hO
  go_enter Try.func43, Try.ntmps43
  go_upto_region 1 with (fail)
  generalize (w.alloc (.cells #[.slice N.A N.n N.c, .slice N.M N.m N.d, .slice N.K N.k N.e] 26)).alloc (.cells #[.string l.nm, .int .i64 l.kind, .string l.fr, .string l.tw, .int .i64 l.sill, .int .i64 l.rate, .int .i64 l.fac, .int .i64 l.lift] 59) = W0 at *
  have HB0 := hid hb0
  have Hh := hid h
  have Hg := hid hg
  clear hb0 h hg
  obtain ⟨x0, x1, x2⟩ := K1.cells
  obtain ⟨y0, y1, y2, y3, y4, y5, y6, y7⟩ := L1.cells
  by_cases hk : l.kind ≠ 0 ∧ l.kind ≠ 1
  · have d0 : (l.kind != 0) = true := by rw [bne_iff_ne]; exact hk.1
    have d1 : (l.kind != 1) = true := by rw [bne_iff_ne]; exact hk.2
    have R := hid (HE.out 3 (by decide) (by unfold endsE; rw [if_pos hk]))
    clear hk
    go_wp2
    go_ret
    exact ⟨ret_int R.out.symm, HB0.out⟩
  · have Hk := hid hk
    by_cases k0 : l.kind = 0
    · have d0 : (l.kind != 0) = false := by rw [bne_eq_false_iff_eq]; exact k0
      have c0 : (l.kind == 0) = true := by rw [beq_iff_eq]; exact k0
      have c1 : (l.kind == 1) = false := by rw [beq_eq_false_iff_ne]; omega
      have K0 := hid k0
      clear k0 hk
      by_cases e1 : endB N l.fr = true
      · by_cases e2 : endB N l.tw = true
        · have e12 := hid (show ¬ ¬ (endB N l.fr = true ∧ endB N l.tw = true) from fun h => h ⟨e1, e2⟩)
          go_wp2_with fail
          refine (rside_any l.fr K1.a hn).mono ?_
          rintro e w2 ⟨rfl, hb⟩
          have K2 := K1.below hb
          have L2 := L1.below hb
          have HB2 := hid (bthen HB0.out hb (Nat.le_refl _))
          clear hb x0 x1 x2 y0 y1 y2 y3 y4 y5 y6 y7 K1 L1
          obtain ⟨x0, x1, x2⟩ := K2.cells
          obtain ⟨y0, y1, y2, y3, y4, y5, y6, y7⟩ := L2.cells
          go_wp2_with fail
          refine (rside_any l.tw K2.a hn).mono ?_
          rintro e w3 ⟨rfl, hb⟩
          have K3 := K2.below hb
          have L3 := L2.below hb
          have HB3 := hid (bthen HB2.out hb (Nat.le_refl _))
          clear hb x0 x1 x2 y0 y1 y2 y3 y4 y5 y6 y7 K2 L2
          obtain ⟨x0, x1, x2⟩ := K3.cells
          obtain ⟨y0, y1, y2, y3, y4, y5, y6, y7⟩ := L3.cells
          by_cases hft : l.fr = l.tw
          · have ds := str_t hft
            have R := hid (HE.out 3 (by decide) (by unfold endsE; rw [if_neg Hk.out, if_neg e12.out, if_pos hft]))
            clear hft
            go_wp2
            go_ret
            exact ⟨ret_int R.out.symm, HB3.out⟩
          · have ds := str_f hft
            have Hft := hid hft
            clear hft
            by_cases hz : (l.fr = s0 ∨ l.tw = s0) ∧ N.m = 0
            · have R := hid (HE.out 29 (by decide) (by unfold endsE; rw [if_neg Hk.out, if_neg e12.out, if_neg Hft.out, if_pos hz]))
              obtain ⟨hz1, hz2⟩ := hz
              have dm : ((N.m : Int) == 0) = true := by rw [beq_iff_eq]; omega
              have Hz2 := hid hz2
              clear hz2
              by_cases hf : l.fr = s0
              · have df := emp_t hf
                clear hf hz1
                go_wp2
                go_ret
                exact ⟨ret_int R.out.symm, HB3.out⟩
              · have df := emp_f hf
                have dt := emp_t (hz1.elim (fun h => absurd h hf) id)
                clear hf hz1
                go_wp2
                go_ret
                exact ⟨ret_int R.out.symm, HB3.out⟩
            · have R0 := hid (show endsE N l = 0 by unfold endsE; rw [if_neg Hk.out, if_neg e12.out, if_neg Hft.out, if_neg hz])
              have Hz := hid hz
              clear hz
              by_cases hf : l.fr = s0
              · have df := emp_t hf
                have dm : ((N.m : Int) == 0) = false := by rw [beq_eq_false_iff_ne]; exact fun e => Hz.out ⟨.inl hf, by omega⟩
                clear hf
                have RK := hid (HO.out R0.out)
                obtain ⟨p, hp⟩ : ∃ p, rateE l = p := ⟨_, rfl⟩
                have hok : rateOk l → p = 0 := fun h => by rw [← hp]; exact if_pos h
                have hno : ¬ rateOk l → p = 2 := fun h => by rw [← hp]; exact if_neg h
                have Hp := hid hp
                clear hp
                by_cases h3 : inB l.rate 0 1000000000 = true
                · by_cases h1 : inB l.sill (-1000000) 1000000 = true
                  · by_cases h2 : inB l.fac 0 1000000000 = true
                    · have e := hok ⟨⟨fun _ => ⟨inB_iff.1 h1, inB_iff.1 h2⟩, fun h => absurd K0.out h⟩, inB_iff.1 h3⟩
                      subst e
                      clear hok hno
                      go_wp2_with (((with_reducible refine (inside_any _ _ _ _).mono ?_); rintro e w' ⟨rfl, rfl⟩))
                      go_ret
                      exact ⟨ret_int (RK.out.trans Hp.out).symm, HB3.out⟩
                    · have e := hno (fun h => h2 (inB_t (h.1.1 K0.out).2))
                      have h2' := Bool.eq_false_iff.2 h2
                      clear h2
                      subst e
                      clear hok hno
                      go_wp2_with (((with_reducible refine (inside_any _ _ _ _).mono ?_); rintro e w' ⟨rfl, rfl⟩))
                      go_ret
                      exact ⟨ret_int (RK.out.trans Hp.out).symm, HB3.out⟩
                  · have e := hno (fun h => h1 (inB_t (h.1.1 K0.out).1))
                    have h1' := Bool.eq_false_iff.2 h1
                    clear h1
                    subst e
                    clear hok hno
                    go_wp2_with (((with_reducible refine (inside_any _ _ _ _).mono ?_); rintro e w' ⟨rfl, rfl⟩))
                    go_ret
                    exact ⟨ret_int (RK.out.trans Hp.out).symm, HB3.out⟩
                · have e := hno (fun h => h3 (inB_t h.2))
                  have h3' := Bool.eq_false_iff.2 h3
                  clear h3
                  subst e
                  clear hok hno
                  go_wp2_with (((with_reducible refine (inside_any _ _ _ _).mono ?_); rintro e w' ⟨rfl, rfl⟩))
                  go_ret
                  exact ⟨ret_int (RK.out.trans Hp.out).symm, HB3.out⟩
              · have df := emp_f hf
                clear hf
                by_cases ht : l.tw = s0
                · have dt := emp_t ht
                  have dm : ((N.m : Int) == 0) = false := by rw [beq_eq_false_iff_ne]; exact fun e => Hz.out ⟨.inr ht, by omega⟩
                  clear ht
                  have RK := hid (HO.out R0.out)
                  obtain ⟨p, hp⟩ : ∃ p, rateE l = p := ⟨_, rfl⟩
                  have hok : rateOk l → p = 0 := fun h => by rw [← hp]; exact if_pos h
                  have hno : ¬ rateOk l → p = 2 := fun h => by rw [← hp]; exact if_neg h
                  have Hp := hid hp
                  clear hp
                  by_cases h3 : inB l.rate 0 1000000000 = true
                  · by_cases h1 : inB l.sill (-1000000) 1000000 = true
                    · by_cases h2 : inB l.fac 0 1000000000 = true
                      · have e := hok ⟨⟨fun _ => ⟨inB_iff.1 h1, inB_iff.1 h2⟩, fun h => absurd K0.out h⟩, inB_iff.1 h3⟩
                        subst e
                        clear hok hno
                        go_wp2_with (((with_reducible refine (inside_any _ _ _ _).mono ?_); rintro e w' ⟨rfl, rfl⟩))
                        go_ret
                        exact ⟨ret_int (RK.out.trans Hp.out).symm, HB3.out⟩
                      · have e := hno (fun h => h2 (inB_t (h.1.1 K0.out).2))
                        have h2' := Bool.eq_false_iff.2 h2
                        clear h2
                        subst e
                        clear hok hno
                        go_wp2_with (((with_reducible refine (inside_any _ _ _ _).mono ?_); rintro e w' ⟨rfl, rfl⟩))
                        go_ret
                        exact ⟨ret_int (RK.out.trans Hp.out).symm, HB3.out⟩
                    · have e := hno (fun h => h1 (inB_t (h.1.1 K0.out).1))
                      have h1' := Bool.eq_false_iff.2 h1
                      clear h1
                      subst e
                      clear hok hno
                      go_wp2_with (((with_reducible refine (inside_any _ _ _ _).mono ?_); rintro e w' ⟨rfl, rfl⟩))
                      go_ret
                      exact ⟨ret_int (RK.out.trans Hp.out).symm, HB3.out⟩
                  · have e := hno (fun h => h3 (inB_t h.2))
                    have h3' := Bool.eq_false_iff.2 h3
                    clear h3
                    subst e
                    clear hok hno
                    go_wp2_with (((with_reducible refine (inside_any _ _ _ _).mono ?_); rintro e w' ⟨rfl, rfl⟩))
                    go_ret
                    exact ⟨ret_int (RK.out.trans Hp.out).symm, HB3.out⟩
                · have dt := emp_f ht
                  clear ht
                  have RK := hid (HO.out R0.out)
                  obtain ⟨p, hp⟩ : ∃ p, rateE l = p := ⟨_, rfl⟩
                  have hok : rateOk l → p = 0 := fun h => by rw [← hp]; exact if_pos h
                  have hno : ¬ rateOk l → p = 2 := fun h => by rw [← hp]; exact if_neg h
                  have Hp := hid hp
                  clear hp
                  by_cases h3 : inB l.rate 0 1000000000 = true
                  · by_cases h1 : inB l.sill (-1000000) 1000000 = true
                    · by_cases h2 : inB l.fac 0 1000000000 = true
                      · have e := hok ⟨⟨fun _ => ⟨inB_iff.1 h1, inB_iff.1 h2⟩, fun h => absurd K0.out h⟩, inB_iff.1 h3⟩
                        subst e
                        clear hok hno
                        go_wp2_with (((with_reducible refine (inside_any _ _ _ _).mono ?_); rintro e w' ⟨rfl, rfl⟩))
                        go_ret
                        exact ⟨ret_int (RK.out.trans Hp.out).symm, HB3.out⟩
                      · have e := hno (fun h => h2 (inB_t (h.1.1 K0.out).2))
                        have h2' := Bool.eq_false_iff.2 h2
                        clear h2
                        subst e
                        clear hok hno
                        go_wp2_with (((with_reducible refine (inside_any _ _ _ _).mono ?_); rintro e w' ⟨rfl, rfl⟩))
                        go_ret
                        exact ⟨ret_int (RK.out.trans Hp.out).symm, HB3.out⟩
                    · have e := hno (fun h => h1 (inB_t (h.1.1 K0.out).1))
                      have h1' := Bool.eq_false_iff.2 h1
                      clear h1
                      subst e
                      clear hok hno
                      go_wp2_with (((with_reducible refine (inside_any _ _ _ _).mono ?_); rintro e w' ⟨rfl, rfl⟩))
                      go_ret
                      exact ⟨ret_int (RK.out.trans Hp.out).symm, HB3.out⟩
                  · have e := hno (fun h => h3 (inB_t h.2))
                    have h3' := Bool.eq_false_iff.2 h3
                    clear h3
                    subst e
                    clear hok hno
                    go_wp2_with (((with_reducible refine (inside_any _ _ _ _).mono ?_); rintro e w' ⟨rfl, rfl⟩))
                    go_ret
                    exact ⟨ret_int (RK.out.trans Hp.out).symm, HB3.out⟩
        · have e2' := Bool.eq_false_iff.2 e2
          have R := hid (HE.out 6 (by decide) (by unfold endsE; rw [if_neg Hk.out, if_pos (fun h => e2 h.2)]))
          clear e2
          go_wp2_with fail
          refine (rside_any l.fr K1.a hn).mono ?_
          rintro e w2 ⟨rfl, hb⟩
          have K2 := K1.below hb
          have L2 := L1.below hb
          have HB2 := hid (bthen HB0.out hb (Nat.le_refl _))
          clear hb x0 x1 x2 y0 y1 y2 y3 y4 y5 y6 y7 K1 L1
          obtain ⟨x0, x1, x2⟩ := K2.cells
          obtain ⟨y0, y1, y2, y3, y4, y5, y6, y7⟩ := L2.cells
          go_wp2_with fail
          refine (rside_any l.tw K2.a hn).mono ?_
          rintro e w3 ⟨rfl, hb⟩
          have HB3 := hid (bthen HB2.out hb (Nat.le_refl _))
          clear hb x0 x1 x2 y0 y1 y2 y3 y4 y5 y6 y7 K2 L2
          go_wp2
          go_ret
          exact ⟨ret_int R.out.symm, HB3.out⟩
      · have e1' := Bool.eq_false_iff.2 e1
        have R := hid (HE.out 6 (by decide) (by unfold endsE; rw [if_neg Hk.out, if_pos (fun h => e1 h.1)]))
        clear e1
        go_wp2_with fail
        refine (rside_any l.fr K1.a hn).mono ?_
        rintro e w2 ⟨rfl, hb⟩
        have HB2 := hid (bthen HB0.out hb (Nat.le_refl _))
        clear hb x0 x1 x2 y0 y1 y2 y3 y4 y5 y6 y7 K1 L1
        go_wp2
        go_ret
        exact ⟨ret_int R.out.symm, HB2.out⟩
    · have d0 : (l.kind != 0) = true := by rw [bne_iff_ne]; exact k0
      have d1 : (l.kind != 1) = false := by rw [bne_eq_false_iff_eq]; exact Classical.byContradiction fun h1 => hk ⟨k0, h1⟩
      have c0 : (l.kind == 0) = false := by rw [beq_eq_false_iff_ne]; exact k0
      have c1 : (l.kind == 1) = true := by rw [beq_iff_eq]; exact Classical.byContradiction fun h1 => hk ⟨k0, h1⟩
      have K0 := hid k0
      clear k0 hk
      by_cases e1 : endB N l.fr = true
      · by_cases e2 : endB N l.tw = true
        · have e12 := hid (show ¬ ¬ (endB N l.fr = true ∧ endB N l.tw = true) from fun h => h ⟨e1, e2⟩)
          go_wp2_with fail
          refine (rside_any l.fr K1.a hn).mono ?_
          rintro e w2 ⟨rfl, hb⟩
          have K2 := K1.below hb
          have L2 := L1.below hb
          have HB2 := hid (bthen HB0.out hb (Nat.le_refl _))
          clear hb x0 x1 x2 y0 y1 y2 y3 y4 y5 y6 y7 K1 L1
          obtain ⟨x0, x1, x2⟩ := K2.cells
          obtain ⟨y0, y1, y2, y3, y4, y5, y6, y7⟩ := L2.cells
          go_wp2_with fail
          refine (rside_any l.tw K2.a hn).mono ?_
          rintro e w3 ⟨rfl, hb⟩
          have K3 := K2.below hb
          have L3 := L2.below hb
          have HB3 := hid (bthen HB2.out hb (Nat.le_refl _))
          clear hb x0 x1 x2 y0 y1 y2 y3 y4 y5 y6 y7 K2 L2
          obtain ⟨x0, x1, x2⟩ := K3.cells
          obtain ⟨y0, y1, y2, y3, y4, y5, y6, y7⟩ := L3.cells
          by_cases hft : l.fr = l.tw
          · have ds := str_t hft
            have R := hid (HE.out 3 (by decide) (by unfold endsE; rw [if_neg Hk.out, if_neg e12.out, if_pos hft]))
            clear hft
            go_wp2
            go_ret
            exact ⟨ret_int R.out.symm, HB3.out⟩
          · have ds := str_f hft
            have Hft := hid hft
            clear hft
            by_cases hz : (l.fr = s0 ∨ l.tw = s0) ∧ N.m = 0
            · have R := hid (HE.out 29 (by decide) (by unfold endsE; rw [if_neg Hk.out, if_neg e12.out, if_neg Hft.out, if_pos hz]))
              obtain ⟨hz1, hz2⟩ := hz
              have dm : ((N.m : Int) == 0) = true := by rw [beq_iff_eq]; omega
              have Hz2 := hid hz2
              clear hz2
              by_cases hf : l.fr = s0
              · have df := emp_t hf
                clear hf hz1
                go_wp2
                go_ret
                exact ⟨ret_int R.out.symm, HB3.out⟩
              · have df := emp_f hf
                have dt := emp_t (hz1.elim (fun h => absurd h hf) id)
                clear hf hz1
                go_wp2
                go_ret
                exact ⟨ret_int R.out.symm, HB3.out⟩
            · have R0 := hid (show endsE N l = 0 by unfold endsE; rw [if_neg Hk.out, if_neg e12.out, if_neg Hft.out, if_neg hz])
              have Hz := hid hz
              clear hz
              by_cases hf : l.fr = s0
              · have df := emp_t hf
                have dm : ((N.m : Int) == 0) = false := by rw [beq_eq_false_iff_ne]; exact fun e => Hz.out ⟨.inl hf, by omega⟩
                clear hf
                have RK := hid (HO.out R0.out)
                obtain ⟨p, hp⟩ : ∃ p, rateE l = p := ⟨_, rfl⟩
                have hok : rateOk l → p = 0 := fun h => by rw [← hp]; exact if_pos h
                have hno : ¬ rateOk l → p = 2 := fun h => by rw [← hp]; exact if_neg h
                have Hp := hid hp
                clear hp
                by_cases h3 : inB l.rate 0 1000000000 = true
                · by_cases h1 : inB l.lift 0 1000000 = true
                  · have e := hok ⟨⟨fun h => absurd h K0.out, fun _ => inB_iff.1 h1⟩, inB_iff.1 h3⟩
                    subst e
                    clear hok hno
                    go_wp2_with (((with_reducible refine (inside_any _ _ _ _).mono ?_); rintro e w' ⟨rfl, rfl⟩))
                    go_ret
                    exact ⟨ret_int (RK.out.trans Hp.out).symm, HB3.out⟩
                  · have e := hno (fun h => h1 (inB_t (h.1.2 K0.out)))
                    have h1' := Bool.eq_false_iff.2 h1
                    clear h1
                    subst e
                    clear hok hno
                    go_wp2_with (((with_reducible refine (inside_any _ _ _ _).mono ?_); rintro e w' ⟨rfl, rfl⟩))
                    go_ret
                    exact ⟨ret_int (RK.out.trans Hp.out).symm, HB3.out⟩
                · have e := hno (fun h => h3 (inB_t h.2))
                  have h3' := Bool.eq_false_iff.2 h3
                  clear h3
                  subst e
                  clear hok hno
                  go_wp2_with (((with_reducible refine (inside_any _ _ _ _).mono ?_); rintro e w' ⟨rfl, rfl⟩))
                  go_ret
                  exact ⟨ret_int (RK.out.trans Hp.out).symm, HB3.out⟩
              · have df := emp_f hf
                clear hf
                by_cases ht : l.tw = s0
                · have dt := emp_t ht
                  have dm : ((N.m : Int) == 0) = false := by rw [beq_eq_false_iff_ne]; exact fun e => Hz.out ⟨.inr ht, by omega⟩
                  clear ht
                  have RK := hid (HO.out R0.out)
                  obtain ⟨p, hp⟩ : ∃ p, rateE l = p := ⟨_, rfl⟩
                  have hok : rateOk l → p = 0 := fun h => by rw [← hp]; exact if_pos h
                  have hno : ¬ rateOk l → p = 2 := fun h => by rw [← hp]; exact if_neg h
                  have Hp := hid hp
                  clear hp
                  by_cases h3 : inB l.rate 0 1000000000 = true
                  · by_cases h1 : inB l.lift 0 1000000 = true
                    · have e := hok ⟨⟨fun h => absurd h K0.out, fun _ => inB_iff.1 h1⟩, inB_iff.1 h3⟩
                      subst e
                      clear hok hno
                      go_wp2_with (((with_reducible refine (inside_any _ _ _ _).mono ?_); rintro e w' ⟨rfl, rfl⟩))
                      go_ret
                      exact ⟨ret_int (RK.out.trans Hp.out).symm, HB3.out⟩
                    · have e := hno (fun h => h1 (inB_t (h.1.2 K0.out)))
                      have h1' := Bool.eq_false_iff.2 h1
                      clear h1
                      subst e
                      clear hok hno
                      go_wp2_with (((with_reducible refine (inside_any _ _ _ _).mono ?_); rintro e w' ⟨rfl, rfl⟩))
                      go_ret
                      exact ⟨ret_int (RK.out.trans Hp.out).symm, HB3.out⟩
                  · have e := hno (fun h => h3 (inB_t h.2))
                    have h3' := Bool.eq_false_iff.2 h3
                    clear h3
                    subst e
                    clear hok hno
                    go_wp2_with (((with_reducible refine (inside_any _ _ _ _).mono ?_); rintro e w' ⟨rfl, rfl⟩))
                    go_ret
                    exact ⟨ret_int (RK.out.trans Hp.out).symm, HB3.out⟩
                · have dt := emp_f ht
                  clear ht
                  have RK := hid (HO.out R0.out)
                  obtain ⟨p, hp⟩ : ∃ p, rateE l = p := ⟨_, rfl⟩
                  have hok : rateOk l → p = 0 := fun h => by rw [← hp]; exact if_pos h
                  have hno : ¬ rateOk l → p = 2 := fun h => by rw [← hp]; exact if_neg h
                  have Hp := hid hp
                  clear hp
                  by_cases h3 : inB l.rate 0 1000000000 = true
                  · by_cases h1 : inB l.lift 0 1000000 = true
                    · have e := hok ⟨⟨fun h => absurd h K0.out, fun _ => inB_iff.1 h1⟩, inB_iff.1 h3⟩
                      subst e
                      clear hok hno
                      go_wp2_with (((with_reducible refine (inside_any _ _ _ _).mono ?_); rintro e w' ⟨rfl, rfl⟩))
                      go_ret
                      exact ⟨ret_int (RK.out.trans Hp.out).symm, HB3.out⟩
                    · have e := hno (fun h => h1 (inB_t (h.1.2 K0.out)))
                      have h1' := Bool.eq_false_iff.2 h1
                      clear h1
                      subst e
                      clear hok hno
                      go_wp2_with (((with_reducible refine (inside_any _ _ _ _).mono ?_); rintro e w' ⟨rfl, rfl⟩))
                      go_ret
                      exact ⟨ret_int (RK.out.trans Hp.out).symm, HB3.out⟩
                  · have e := hno (fun h => h3 (inB_t h.2))
                    have h3' := Bool.eq_false_iff.2 h3
                    clear h3
                    subst e
                    clear hok hno
                    go_wp2_with (((with_reducible refine (inside_any _ _ _ _).mono ?_); rintro e w' ⟨rfl, rfl⟩))
                    go_ret
                    exact ⟨ret_int (RK.out.trans Hp.out).symm, HB3.out⟩
        · have e2' := Bool.eq_false_iff.2 e2
          have R := hid (HE.out 6 (by decide) (by unfold endsE; rw [if_neg Hk.out, if_pos (fun h => e2 h.2)]))
          clear e2
          go_wp2_with fail
          refine (rside_any l.fr K1.a hn).mono ?_
          rintro e w2 ⟨rfl, hb⟩
          have K2 := K1.below hb
          have L2 := L1.below hb
          have HB2 := hid (bthen HB0.out hb (Nat.le_refl _))
          clear hb x0 x1 x2 y0 y1 y2 y3 y4 y5 y6 y7 K1 L1
          obtain ⟨x0, x1, x2⟩ := K2.cells
          obtain ⟨y0, y1, y2, y3, y4, y5, y6, y7⟩ := L2.cells
          go_wp2_with fail
          refine (rside_any l.tw K2.a hn).mono ?_
          rintro e w3 ⟨rfl, hb⟩
          have HB3 := hid (bthen HB2.out hb (Nat.le_refl _))
          clear hb x0 x1 x2 y0 y1 y2 y3 y4 y5 y6 y7 K2 L2
          go_wp2
          go_ret
          exact ⟨ret_int R.out.symm, HB3.out⟩
      · have e1' := Bool.eq_false_iff.2 e1
        have R := hid (HE.out 6 (by decide) (by unfold endsE; rw [if_neg Hk.out, if_pos (fun h => e1 h.1)]))
        clear e1
        go_wp2_with fail
        refine (rside_any l.fr K1.a hn).mono ?_
        rintro e w2 ⟨rfl, hb⟩
        have HB2 := hid (bthen HB0.out hb (Nat.le_refl _))
        clear hb x0 x1 x2 y0 y1 y2 y3 y4 y5 y6 y7 K1 L1
        go_wp2
        go_ret
        exact ⟨ret_int R.out.symm, HB2.out⟩

end Go.Proofs.Ytndcopljjnbkbaa
