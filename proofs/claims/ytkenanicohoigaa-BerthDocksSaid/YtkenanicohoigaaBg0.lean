/- Names and awake of the law of docks. For all docks and ships. -/
import Derived.Test.YtkenanicohoigaaBf0
namespace Go.Proofs.Ytkenanicohoigaa
open Go.RowKit Go.Maps Kb Wb

theorem nameB_1 (c : UInt8) (h : letB (c.toNat : Int) = true) : nameB ⟨#[c]⟩ = true := nameB_t ⟨by simp [bl], by simp [bl], fun i b h1 => by
  match i, h1 with
  | 0, h1 => injection h1 with h1; subst h1; exact .inl h⟩
/-- Whether docks and ships are such at which the statements look. -/
def NmP (n : Nat) (d : Nat → Dkd) (m : Nat) (x : Nat → Cad) : Prop := (n ≤ 6 ∧ m ≤ 10) ∧ (∀ i, i < n → (d i).nm.size ≤ 40) ∧ ∀ i, i < m → (x i).nm.size ≤ 40
noncomputable def nmB (n : Nat) (d : Nat → Dkd) (m : Nat) (x : Nat → Cad) : Bool := @decide (NmP n d m x) (Classical.propDecidable _)
theorem nmB_t {n m : Nat} {d : Nat → Dkd} {x : Nat → Cad} (h : NmP n d m x) : nmB n d m x = true := @decide_eq_true _ (Classical.propDecidable _) h
theorem nmB_f {n m : Nat} {d : Nat → Dkd} {x : Nat → Cad} (h : ¬ NmP n d m x) : nmB n d m x = false := @decide_eq_false _ (Classical.propDecidable _) h
theorem nmB_iff {n m : Nat} {d : Nat → Dkd} {x : Nat → Cad} : nmB n d m x = true ↔ NmP n d m x := @decide_eq_true_iff _ (Classical.propDecidable _)

set_option maxRecDepth 100000 in
set_option maxHeartbeats 8000000 in
theorem Names_any {w : World} {B0 n c m e : Nat} {A M : Option Addr} {d : Nat → Dkd} {x : Nat → Cad} (h : Dkl w B0 A n d) (k : Cal w B0 M m x) (hn : n < 9223372036854775808) (hm : m < 9223372036854775808) (hs : ∀ i, i < n → (d i).nm.size < 9223372036854775808) (ks : ∀ i, i < m → (x i).nm.size < 9223372036854775808) :
    Calls Try.prog 6 #[.slice A n c, .slice M m e] w fun e w' => e = .returned (.bool (nmB n d m x)) ∧ Below w.heap.size w w' := by
  have Hh := hid h
  have Hk := hid k
  have Hs := hid hs
  have Ks := hid ks
  clear h k hs ks
  by_cases h1 : n ≤ 6
  · have d1 : decide ((6 : Int) < (n : Int)) = false := decide_eq_false (by omega)
    by_cases h2 : m ≤ 10
    · have d2 : decide ((10 : Int) < (m : Int)) = false := decide_eq_false (by omega)
      go_enter Try.func6, Try.ntmps6
      go_wp2_with fail
      clear d1 d2
      go_loopw [5] (fun iv wr => ∃ (i : Nat), i ≤ n ∧ iv = .int .i64 i ∧ Hid (∀ j, j < i → (d j).nm.size ≤ 40) ∧ Below w.heap.size w wr) (fun iv _ => n - (intOf iv).toNat)
      case atStart => exact ⟨0, Nat.zero_le _, rfl, hid (fun j hj => absurd hj (Nat.not_lt_zero _)), Below.refl _ _⟩
      case round =>
        obtain ⟨i, hi, rfl, HN, hbel⟩ := hrel
        have hw := Hh.out.below hbel
        have Hbel := hid hbel
        clear hbel
        by_cases hlt : i < n
        · obtain ⟨ad, hA, hl, q0, q1, q2, q3, q4, q5⟩ := hw.at_ i hlt
          subst hA
          have hs9 := Hs.out i hlt
          by_cases h40 : (d i).nm.size ≤ 40
          · have hd : decide ((40 : Int) < ((d i).nm.size : Int)) = false := decide_eq_false (by omega)
            have HN2 := hid (show ∀ j, j < i + 1 → (d j).nm.size ≤ 40 from fun j hj => by
              by_cases e : j = i
              · subst e; exact h40
              · exact HN.out j (by omega))
            clear h40
            go_wp2
            go_roundw
            case rel => exact ⟨i + 1, by omega, by go_num, HN2, Hbel.out⟩
            case measure => simp [intOf]; omega
          · have hd : decide ((40 : Int) < ((d i).nm.size : Int)) = true := decide_eq_true (by omega)
            have HE := hid (nmB_f (n := n) (d := d) (m := m) (x := x) fun h => h40 (h.2.1 i hlt))
            clear h40
            go_wp2
            go_ret
            exact ⟨ret_bool HE.out.symm, Hbel.out⟩
        · obtain rfl : i = n := by omega
          clear hw
          go_wp2_with fail
          go_loopw [6] (fun iv w2 => ∃ (j : Nat), j ≤ m ∧ iv = .int .i64 j ∧ Hid (∀ k, k < j → (x k).nm.size ≤ 40) ∧ Below w.heap.size w w2) (fun iv _ => m - (intOf iv).toNat)
          case atStart => exact ⟨0, Nat.zero_le _, rfl, hid (fun j hj => absurd hj (Nat.not_lt_zero _)), Hbel.out⟩
          case round =>
            obtain ⟨j, hj, rfl, HM, hbel⟩ := hrel
            have hw := Hk.out.below hbel
            have Hb2 := hid hbel
            clear hbel
            by_cases hlt2 : j < m
            · obtain ⟨ad, hA, hl, q0, q1, q2, q3, q4, q5, q6, q7, q8⟩ := hw.at_ j hlt2
              subst hA
              have hs9 := Ks.out j hlt2
              by_cases h40 : (x j).nm.size ≤ 40
              · have hd : decide ((40 : Int) < ((x j).nm.size : Int)) = false := decide_eq_false (by omega)
                have HM2 := hid (show ∀ k, k < j + 1 → (x k).nm.size ≤ 40 from fun k hk => by
                  by_cases e : k = j
                  · subst e; exact h40
                  · exact HM.out k (by omega))
                clear h40
                go_wp2
                go_roundw
                case rel => exact ⟨j + 1, by omega, by go_num, HM2, Hb2.out⟩
                case measure => simp [intOf]; omega
              · have hd : decide ((40 : Int) < ((x j).nm.size : Int)) = true := decide_eq_true (by omega)
                have HE := hid (nmB_f (n := i) (d := d) (m := m) (x := x) fun h => h40 (h.2.2 j hlt2))
                clear h40
                go_wp2
                go_ret
                exact ⟨ret_bool HE.out.symm, Hb2.out⟩
            · obtain rfl : j = m := by omega
              have HE := hid (nmB_t (n := i) (d := d) (m := j) (x := x) ⟨⟨h1, h2⟩, HN.out, HM.out⟩)
              go_wp2
              go_ret
              exact ⟨ret_bool HE.out.symm, Hb2.out⟩
    · have d2 : decide ((10 : Int) < (m : Int)) = true := decide_eq_true (by omega)
      have HE := hid (nmB_f (n := n) (d := d) (m := m) (x := x) fun h => h2 h.1.2)
      clear h2
      go_enter Try.func6, Try.ntmps6
      go_wp2
      go_ret
      exact ⟨ret_bool HE.out.symm, Below.refl _ _⟩
  · have d1 : decide ((6 : Int) < (n : Int)) = true := decide_eq_true (by omega)
    have HE := hid (nmB_f (n := n) (d := d) (m := m) (x := x) fun h => h1 h.1.1)
    clear h1
    go_enter Try.func6, Try.ntmps6
    go_wp2
    go_ret
    exact ⟨ret_bool HE.out.symm, Below.refl _ _⟩

abbrev aD : Dkd := ⟨⟨#[100]⟩, 200, 40, 0, 0, 2⟩
abbrev aA : Cad := ⟨⟨#[97]⟩, 100, 30, 0, 0, 0, 1, 0, 0⟩
abbrev aB : Cad := ⟨⟨#[98]⟩, 197, 30, 0, 0, 0, 1, 0, 0⟩
theorem aD_q : Dkq 1 (fun _ => aD) 0 := by
  have h := Dkq.one aD
  rw [if_pos (nameB_1 _ (by decide))] at h
  rw [show dockE aD = 0 by decide] at h
  exact h
theorem aA_q : Caq 1 (fun _ => aA) 0 := by
  have h := Caq.one aA
  rw [if_pos (nameB_1 _ (by decide))] at h
  rw [show callE aA = 0 by decide] at h
  exact h
theorem aB_q : Caq 1 (fun _ => aB) 0 := by
  have h := Caq.one aB
  rw [if_pos (nameB_1 _ (by decide))] at h
  rw [show callE aB = 0 by decide] at h
  exact h
theorem fit_a : fitB aD aA = true := by decide
theorem fit_b : fitB aD aB = false := by decide
set_option maxRecDepth 100000 in
set_option maxHeartbeats 8000000 in
theorem awake_any (w : World) :
    Calls Try.prog 5 #[] w fun e w' => e = .returned (.bool true) ∧ Below w.heap.size w w' := by
  obtain ⟨g, hg⟩ : ∃ g, w.heap.size = g := ⟨_, rfl⟩
  have hb0 := (((Below.refl w.heap.size w).alloc (Nat.le_refl _) (.cells #[.string aD.nm, .int .i64 aD.len, .int .i64 aD.wid, .int .i64 aD.sill, .int .i64 aD.flr, .int .i64 aD.gap] 34)).alloc (by simp) (.cells #[.string aA.nm, .int .i64 aA.len, .int .i64 aA.beam, .int .i64 aA.dra, .int .i64 aA.und, .int .i64 aA.arr, .int .i64 aA.wrk, .int .i64 aA.due, .int .i64 aA.late] 36)).alloc (by simp; omega) (.cells #[.string aB.nm, .int .i64 aB.len, .int .i64 aB.beam, .int .i64 aB.dra, .int .i64 aB.und, .int .i64 aB.arr, .int .i64 aB.wrk, .int .i64 aB.due, .int .i64 aB.late] 36)
  have K := ((Dkb.new w aD hg).below (alo (o := (.cells #[.string aA.nm, .int .i64 aA.len, .int .i64 aA.beam, .int .i64 aA.dra, .int .i64 aA.und, .int .i64 aA.arr, .int .i64 aA.wrk, .int .i64 aA.due, .int .i64 aA.late] 36)))).below (alo (o := (.cells #[.string aB.nm, .int .i64 aB.len, .int .i64 aB.beam, .int .i64 aB.dra, .int .i64 aB.und, .int .i64 aB.arr, .int .i64 aB.wrk, .int .i64 aB.due, .int .i64 aB.late] 36)))
  have J := (Cab.new (w.alloc (.cells #[.string aD.nm, .int .i64 aD.len, .int .i64 aD.wid, .int .i64 aD.sill, .int .i64 aD.flr, .int .i64 aD.gap] 34)) aA (g := g + 1) (by simp [hg])).below (alo (o := (.cells #[.string aB.nm, .int .i64 aB.len, .int .i64 aB.beam, .int .i64 aB.dra, .int .i64 aB.und, .int .i64 aB.arr, .int .i64 aB.wrk, .int .i64 aB.due, .int .i64 aB.late] 36)))
  have L := Cab.new ((w.alloc (.cells #[.string aD.nm, .int .i64 aD.len, .int .i64 aD.wid, .int .i64 aD.sill, .int .i64 aD.flr, .int .i64 aD.gap] 34)).alloc (.cells #[.string aA.nm, .int .i64 aA.len, .int .i64 aA.beam, .int .i64 aA.dra, .int .i64 aA.und, .int .i64 aA.arr, .int .i64 aA.wrk, .int .i64 aA.due, .int .i64 aA.late] 36)) aB (g := g + 2) (by simp [hg])
  obtain ⟨u0, u1, u2, u3, u4, u5⟩ := K.cells
  obtain ⟨v0, v1, v2, v3, v4, v5, v6, v7, v8⟩ := J.cells
  obtain ⟨x0, x1, x2, x3, x4, x5, x6, x7, x8⟩ := L.cells
  go_enter Try.func5, Try.ntmps5
  go_wp2_with fail
  generalize ((w.alloc (.cells #[.string aD.nm, .int .i64 aD.len, .int .i64 aD.wid, .int .i64 aD.sill, .int .i64 aD.flr, .int .i64 aD.gap] 34)).alloc (.cells #[.string aA.nm, .int .i64 aA.len, .int .i64 aA.beam, .int .i64 aA.dra, .int .i64 aA.und, .int .i64 aA.arr, .int .i64 aA.wrk, .int .i64 aA.due, .int .i64 aA.late] 36)).alloc (.cells #[.string aB.nm, .int .i64 aB.len, .int .i64 aB.beam, .int .i64 aB.dra, .int .i64 aB.und, .int .i64 aB.arr, .int .i64 aB.wrk, .int .i64 aB.due, .int .i64 aB.late] 36) = W0 at *
  have HB0 := hid hb0
  clear hb0 u0 u1 u2 u3 u4 u5 v0 v1 v2 v3 v4 v5 v6 v7 v8 x0 x1 x2 x3 x4 x5 x6 x7 x8
  refine (Fits_is aD aA (hid aD_q) (hid aA_q) (by decide) (by decide) (hid (e2_r 0))).mono ?_
  rintro e w2 ⟨rfl, hb⟩
  have K2 := K.below hb
  have L2 := L.below hb
  have HB2 := hid (bthen HB0.out hb (Nat.le_refl _))
  clear hb K L J
  obtain ⟨u0, u1, u2, u3, u4, u5⟩ := K2.cells
  obtain ⟨x0, x1, x2, x3, x4, x5, x6, x7, x8⟩ := L2.cells
  rw [if_pos rfl, fit_a]
  go_wp2_with fail
  clear u0 u1 u2 u3 u4 u5 x0 x1 x2 x3 x4 x5 x6 x7 x8 K2 L2
  refine (Fits_is aD aB (hid aD_q) (hid aB_q) (by decide) (by decide) (hid (e2_r 0))).mono ?_
  rintro e w3 ⟨rfl, hb⟩
  have HB3 := hid (bthen HB2.out hb (Nat.le_refl _))
  clear hb
  rw [if_pos rfl, fit_b]
  go_wp2
  go_ret
  exact ⟨rfl, HB3.out⟩

end Go.Proofs.Ytkenanicohoigaa
