/- The walk of BerthDocks. For all docks and ships. -/
import Derived.Test.YtkenanicohoigaaBg0
import Derived.Deep.RegionHeld3
import Derived.Deep.RegionWith
import Derived.Deep.DeepCutAuto
namespace Go.Proofs.Ytkenanicohoigaa
open Go.RowKit Go.Maps Kb Wb

/-- The first dock and the first ship of two lists. -/
structure Dq (w : World) (B0 : Nat) (ad am : Addr) (n m : Nat) (d : Nat → Dkd) (x : Nat → Cad) : Prop where
  k : Dkl w B0 (some ad) n d
  j : Cal w B0 (some am) m x
  n : 0 < n
  m : 0 < m
theorem Dq.below {w w' : World} {B0 : Nat} {ad am : Addr} {n m : Nat} {d : Nat → Dkd} {x : Nat → Cad} (h : Dq w B0 ad am n m d x) (hb : Below w.heap.size w w') : Dq w' B0 ad am n m d x := ⟨h.k.below hb, h.j.below hb, h.n, h.m⟩
theorem Dq.cells {w : World} {B0 : Nat} {ad am : Addr} {n m : Nat} {d : Nat → Dkd} {x : Nat → Cad} (h : Dq w B0 ad am n m d x) : w.cell? (ad) = some (.string (d 0).nm) ∧ w.cell? ⟨(ad).block, (ad).off + 1, none⟩ = some (.int .i64 (d 0).len) ∧ w.cell? ⟨(ad).block, (ad).off + 2, none⟩ = some (.int .i64 (d 0).wid) ∧ w.cell? ⟨(ad).block, (ad).off + 3, none⟩ = some (.int .i64 (d 0).sill) ∧ w.cell? ⟨(ad).block, (ad).off + 4, none⟩ = some (.int .i64 (d 0).flr) ∧ w.cell? ⟨(ad).block, (ad).off + 5, none⟩ = some (.int .i64 (d 0).gap) ∧ w.cell? (am) = some (.string (x 0).nm) ∧ w.cell? ⟨(am).block, (am).off + 1, none⟩ = some (.int .i64 (x 0).len) ∧ w.cell? ⟨(am).block, (am).off + 2, none⟩ = some (.int .i64 (x 0).beam) ∧ w.cell? ⟨(am).block, (am).off + 3, none⟩ = some (.int .i64 (x 0).dra) ∧ w.cell? ⟨(am).block, (am).off + 4, none⟩ = some (.int .i64 (x 0).und) ∧ w.cell? ⟨(am).block, (am).off + 5, none⟩ = some (.int .i64 (x 0).arr) ∧ w.cell? ⟨(am).block, (am).off + 6, none⟩ = some (.int .i64 (x 0).wrk) ∧ w.cell? ⟨(am).block, (am).off + 7, none⟩ = some (.int .i64 (x 0).due) ∧ w.cell? ⟨(am).block, (am).off + 8, none⟩ = some (.int .i64 (x 0).late) := by
  obtain ⟨ad', e, _, u0, u1, u2, u3, u4, u5⟩ := h.k.at_ 0 h.n
  injection e with e
  subst e
  obtain ⟨am', e, _, v0, v1, v2, v3, v4, v5, v6, v7, v8⟩ := h.j.at_ 0 h.m
  injection e with e
  subst e
  simp only [Nat.zero_mul, addr_zero] at u0 u1 u2 u3 u4 u5 v0 v1 v2 v3 v4 v5 v6 v7 v8
  exact ⟨u0, u1, u2, u3, u4, u5, v0, v1, v2, v3, v4, v5, v6, v7, v8⟩
theorem Dq.one {w : World} {B0 : Nat} {ad am : Addr} {n m : Nat} {d : Nat → Dkd} {x : Nat → Cad} (h : Dq w B0 ad am n m d x) : Cal w B0 (some am) 1 fun _ => x 0 := by
  have := h.j.at1 h.m
  rw [Nat.zero_mul, addr_zero] at this
  exact this
set_option maxRecDepth 100000 in
set_option maxHeartbeats 8000000 in
theorem docks_walk {w : World} {B0 n c m e : Nat} {A M : Option Addr} {d : Nat → Dkd} {x : Nat → Cad} (h : Dkl w B0 A n d) (k : Cal w B0 M m x) (hc : n ≤ c) (hcm : c ≤ maxLen) (he : m ≤ e) (hem : e ≤ maxLen) (hs : ∀ i, i < n → (d i).nm.size ≤ maxLen) (ks : ∀ i, i < m → (x i).nm.size ≤ maxLen) :
    Calls Try.prog 3 #[.slice A n c, .slice M m e] w fun e w' => e = .returned (.bool true) ∧ Below w.heap.size w w' := by
  unfold maxLen at hs ks
  have hn' : n < 9223372036854775808 := by unfold maxLen at hcm; omega
  have hm' : m < 9223372036854775808 := by unfold maxLen at hem; omega
  have Hs0 := hid (show ∀ i, i < n → (d i).nm.size < 9223372036854775808 from fun i hi => by have := hs i hi; omega)
  have Ks0 := hid (show ∀ i, i < m → (x i).nm.size < 9223372036854775808 from fun i hi => by have := ks i hi; omega)
  have Hh := hid h
  have Hk := hid k
  clear h k hs ks
  go_enter Try.func3, Try.ntmps3
  go_wp2_with fail
  refine (awake_any _).mono ?_
  rintro _ w1 ⟨rfl, hb⟩
  have K1 := Hh.out.below hb
  have J1 := Hk.out.below hb
  have HB1 := hid hb
  clear hb
  by_cases hsl : NmP n d m x
  · have HT := hid (nmB_t hsl)
    have hn6 := hsl.1.1
    have hm10 := hsl.1.2
    have hs40 := hid (show ∀ i, i < n → (d i).nm.size ≤ 1000000000 from fun i hi => by have := hsl.2.1 i hi; omega)
    have ks40 := hid (show ∀ i, i < m → (x i).nm.size ≤ 1000000000 from fun i hi => by have := hsl.2.2 i hi; omega)
    clear hsl
    obtain ⟨q, hq0⟩ := Dkq.exists n d
    have Hq := hid hq0
    obtain ⟨p, hp0⟩ := Caq.exists m x
    have Hp := hid hp0
    have hqq : (q != q) = false := by rw [bne_eq_false_iff_eq]
    have hpp : (p != p) = false := by rw [bne_eq_false_iff_eq]
    clear hq0 hp0
    go_wp2_with fail
    refine (Names_any K1 J1 hn' hm' Hs0.out Ks0.out).mono ?_
    rintro _ w2 ⟨rfl, hb⟩
    rw [HT.out]
    have K2 := K1.below hb
    have J2 := J1.below hb
    have HB2 := hid (bthen HB1.out hb (Nat.le_refl _))
    clear hb K1 J1
    go_wp2_with fail
    refine (Dkcheck_is Hq K2 (by omega) hs40.out).mono ?_
    rintro _ w3 ⟨rfl, hb⟩
    have K3 := K2.below hb
    have J3 := J2.below hb
    have HB3 := hid (bthen HB2.out hb (Nat.le_refl _))
    clear hb K2 J2
    go_wp2_with fail
    refine (rDkcheck_is Hq K3 (by omega) hs40.out).mono ?_
    rintro _ w4 ⟨rfl, hb⟩
    have K4 := K3.below hb
    have J4 := J3.below hb
    have HB4 := hid (bthen HB3.out hb (Nat.le_refl _))
    clear hb K3 J3
    go_wp2_with fail
    refine (Cacheck_is Hp J4 (by omega) ks40.out).mono ?_
    rintro _ w5 ⟨rfl, hb⟩
    have K5 := K4.below hb
    have J5 := J4.below hb
    have HB5 := hid (bthen HB4.out hb (Nat.le_refl _))
    clear hb K4 J4
    go_wp2_with fail
    refine (rCacheck_is Hp J5 (by omega) ks40.out).mono ?_
    rintro _ w6 ⟨rfl, hb⟩
    have K6 := K5.below hb
    have J6 := J5.below hb
    have HB6 := hid (bthen HB5.out hb (Nat.le_refl _))
    clear hb K5 J5
    by_cases hn0 : n = 0
    · subst hn0
      go_wp2
      go_ret
      exact ⟨rfl, HB6.out⟩
    · have z1 : ((n : Int) == 0) = false := by rw [beq_eq_false_iff_ne]; omega
      by_cases hm0 : m = 0
      · subst hm0
        clear hn0
        go_wp2
        go_ret
        exact ⟨rfl, HB6.out⟩
      · have z2 : ((m : Int) == 0) = false := by rw [beq_eq_false_iff_ne]; omega
        obtain ⟨ad, hA, hl, -⟩ := K6.at_ 0 (by omega)
        obtain ⟨am, hM, hl2, -⟩ := J6.at_ 0 (by omega)
        subst hA
        subst hM
        have hnp : 0 < n := by omega
        have hmp : 0 < m := by omega
        have hnl : (0 : Int) < (n : Int) := by omega
        have hml : (0 : Int) < (m : Int) := by omega
        have h9 := hs40.out 0 hnp
        have k9 := ks40.out 0 hmp
        obtain ⟨qd, qd0⟩ := Dkq.exists 1 (fun _ => d 0)
        have Hqd := hid qd0
        obtain ⟨qc, qc0⟩ := Caq.exists 1 (fun _ => x 0)
        have Hqc := hid qc0
        obtain ⟨f, hf0⟩ : ∃ f, e2 qd qc = f := ⟨_, rfl⟩
        have Hf := hid hf0
        clear hn0 hm0 qd0 qc0 hf0
        go_wp2_with fail
        have D0 : Dq w6.drew B0 ad am n m d x := ⟨K6.below dr0, J6.below dr0, hnp, hmp⟩
        clear K6 J6
        go_region_held3 (fun w' => w'.cell? (ad) = some (.string (d 0).nm) ∧ w'.cell? ⟨(ad).block, (ad).off + 1, none⟩ = some (.int .i64 (d 0).len) ∧ w'.cell? ⟨(ad).block, (ad).off + 2, none⟩ = some (.int .i64 (d 0).wid) ∧ w'.cell? ⟨(ad).block, (ad).off + 3, none⟩ = some (.int .i64 (d 0).sill) ∧ w'.cell? ⟨(ad).block, (ad).off + 4, none⟩ = some (.int .i64 (d 0).flr) ∧ w'.cell? ⟨(ad).block, (ad).off + 5, none⟩ = some (.int .i64 (d 0).gap) ∧ w'.cell? (am) = some (.string (x 0).nm) ∧ w'.cell? ⟨(am).block, (am).off + 1, none⟩ = some (.int .i64 (x 0).len) ∧ w'.cell? ⟨(am).block, (am).off + 2, none⟩ = some (.int .i64 (x 0).beam) ∧ w'.cell? ⟨(am).block, (am).off + 3, none⟩ = some (.int .i64 (x 0).dra) ∧ w'.cell? ⟨(am).block, (am).off + 4, none⟩ = some (.int .i64 (x 0).und) ∧ w'.cell? ⟨(am).block, (am).off + 5, none⟩ = some (.int .i64 (x 0).arr) ∧ w'.cell? ⟨(am).block, (am).off + 6, none⟩ = some (.int .i64 (x 0).wrk) ∧ w'.cell? ⟨(am).block, (am).off + 7, none⟩ = some (.int .i64 (x 0).due) ∧ w'.cell? ⟨(am).block, (am).off + 8, none⟩ = some (.int .i64 (x 0).late)) (first | with_reducible exact Dq.cells D0 | with_reducible exact Dq.cells D1) (first
          | (go_at_call 11; with_reducible refine (Fits_is (d 0) (x 0) Hqd Hqc h9 k9 Hf).mono ?_; rintro _ w7 ⟨rfl, hb⟩; have D1 := D0.below hb))
        have HB7 := hid (bthen HB6.out.drew hb (Nat.le_refl _))
        have D2 : Dq w7.drew B0 ad am n m d x := D1.below dr0
        have HB8 := hid HB7.out.drew
        have he1 : (1 : Int) ≤ (e : Int) := by omega
        clear hb D0 D1
        go_wp2_with fail
        go_region_held3 (fun w' => w'.cell? (ad) = some (.string (d 0).nm) ∧ w'.cell? ⟨(ad).block, (ad).off + 1, none⟩ = some (.int .i64 (d 0).len) ∧ w'.cell? ⟨(ad).block, (ad).off + 2, none⟩ = some (.int .i64 (d 0).wid) ∧ w'.cell? ⟨(ad).block, (ad).off + 3, none⟩ = some (.int .i64 (d 0).sill) ∧ w'.cell? ⟨(ad).block, (ad).off + 4, none⟩ = some (.int .i64 (d 0).flr) ∧ w'.cell? ⟨(ad).block, (ad).off + 5, none⟩ = some (.int .i64 (d 0).gap) ∧ w'.cell? (am) = some (.string (x 0).nm) ∧ w'.cell? ⟨(am).block, (am).off + 1, none⟩ = some (.int .i64 (x 0).len) ∧ w'.cell? ⟨(am).block, (am).off + 2, none⟩ = some (.int .i64 (x 0).beam) ∧ w'.cell? ⟨(am).block, (am).off + 3, none⟩ = some (.int .i64 (x 0).dra) ∧ w'.cell? ⟨(am).block, (am).off + 4, none⟩ = some (.int .i64 (x 0).und) ∧ w'.cell? ⟨(am).block, (am).off + 5, none⟩ = some (.int .i64 (x 0).arr) ∧ w'.cell? ⟨(am).block, (am).off + 6, none⟩ = some (.int .i64 (x 0).wrk) ∧ w'.cell? ⟨(am).block, (am).off + 7, none⟩ = some (.int .i64 (x 0).due) ∧ w'.cell? ⟨(am).block, (am).off + 8, none⟩ = some (.int .i64 (x 0).late)) (first | with_reducible exact Dq.cells D2 | with_reducible exact Dq.cells D3) (first
          | (go_at_call 12; with_reducible refine (CheckBoth_is (d 0) Hqd Hqc D2.one (by decide) (fun _ _ => k9) h9).mono ?_; rintro _ w9 ⟨rfl, hb⟩; have D3 := D2.below hb))
        have HB9 := hid (bthen HB8.out hb (Nat.le_refl _))
        have D4 := D3
        rw [Hf.out]
        clear hb D2 D3 he1
        obtain ⟨t, ht⟩ : ∃ t, fitB (d 0) (x 0) = t := ⟨_, rfl⟩
        rw [ht]
        have Ht := hid ht
        clear ht
        by_cases f0 : f = 0
        · subst f0
          obtain ⟨z3, z4⟩ := e2_0 Hf.out
          have hd0 := Dkq.one0 (x := d 0) (by rw [← z3]; exact Hqd.out)
          have hx0 := Caq.one0 (x := x 0) (by rw [← z4]; exact Hqc.out)
          have D5 : Dq w9.drew B0 ad am n m d x := D4.below dr0
          have HB10 := hid HB9.out.drew
          clear z3 z4 D4
          cases t
          all_goals
            simp only [decide_true, Bool.true_and]
            go_wp2_with fail
            go_region_held3 (fun w' => w'.cell? (ad) = some (.string (d 0).nm) ∧ w'.cell? ⟨(ad).block, (ad).off + 1, none⟩ = some (.int .i64 (d 0).len) ∧ w'.cell? ⟨(ad).block, (ad).off + 2, none⟩ = some (.int .i64 (d 0).wid) ∧ w'.cell? ⟨(ad).block, (ad).off + 3, none⟩ = some (.int .i64 (d 0).sill) ∧ w'.cell? ⟨(ad).block, (ad).off + 4, none⟩ = some (.int .i64 (d 0).flr) ∧ w'.cell? ⟨(ad).block, (ad).off + 5, none⟩ = some (.int .i64 (d 0).gap) ∧ w'.cell? (am) = some (.string (x 0).nm) ∧ w'.cell? ⟨(am).block, (am).off + 1, none⟩ = some (.int .i64 (x 0).len) ∧ w'.cell? ⟨(am).block, (am).off + 2, none⟩ = some (.int .i64 (x 0).beam) ∧ w'.cell? ⟨(am).block, (am).off + 3, none⟩ = some (.int .i64 (x 0).dra) ∧ w'.cell? ⟨(am).block, (am).off + 4, none⟩ = some (.int .i64 (x 0).und) ∧ w'.cell? ⟨(am).block, (am).off + 5, none⟩ = some (.int .i64 (x 0).arr) ∧ w'.cell? ⟨(am).block, (am).off + 6, none⟩ = some (.int .i64 (x 0).wrk) ∧ w'.cell? ⟨(am).block, (am).off + 7, none⟩ = some (.int .i64 (x 0).due) ∧ w'.cell? ⟨(am).block, (am).off + 8, none⟩ = some (.int .i64 (x 0).late)) (first | with_reducible exact Dq.cells D5 | with_reducible exact Dq.cells D6) (first
              | (go_at_call 13; with_reducible refine (rFits_any (d 0) (x 0) hd0 hx0).mono ?_; rintro _ w11 ⟨rfl, hb⟩; rw [Ht.out]; have D6 := D5.below hb))
            all_goals
              have HB11 := hid (bthen HB10.out hb (Nat.le_refl _))
              clear hb
              go_wp2
              go_ret
              exact ⟨rfl, HB11.out⟩
        · have hf1 : (f != 0) = true := by rw [bne_iff_ne]; exact f0
          have hf2 : (f == f) = true := by rw [beq_iff_eq]
          have hf3 : decide (f = 0) = false := decide_eq_false f0
          rw [hf3, Bool.false_and]
          clear f0 hf3
          go_wp2
          go_ret
          exact ⟨rfl, HB9.out⟩
  · have HF := hid (nmB_f hsl)
    clear hsl
    go_wp2_with fail
    refine (Names_any K1 J1 hn' hm' Hs0.out Ks0.out).mono ?_
    rintro _ w2 ⟨rfl, hb⟩
    rw [HF.out]
    have HB2 := hid (bthen HB1.out hb (Nat.le_refl _))
    clear hb K1 J1
    go_wp2
    go_ret
    exact ⟨rfl, HB2.out⟩

end Go.Proofs.Ytkenanicohoigaa
