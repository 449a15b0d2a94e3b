/- Networks: CheckNetwork of the reference. For all networks whose lists are not endless. Networks: the error of a state. For all networks and states whose lists are not endless. Networks: Levels of the program. For all networks and states whose lists are not endless. -/
import Derived.Test.YtockfiobhmohnaaGd
import Derived.Deep.AppendLies
import Derived.Deep.RegionLaw
namespace Go.Proofs.Ytockfiobhmohnaa
open Go.RowKit Go.Maps Kb Wb

theorem Cn.of_b {N : Nd} {q : Int} (h : Bq N q) (h0 : q ≠ 0) : Cn N q := by
  obtain ⟨b, hb⟩ := Cs.exists N.m N.F N.L
  obtain ⟨c, hc⟩ := Lsg.exists 12 N.k (fun i => (N.l i).nm) (fun i r => r = lkE N (N.l i)) (fun i => ⟨_, rfl⟩)
  exact ⟨q, b, c, h, hb, hc, (if_pos h0).symm⟩
theorem Cn.of_s {N : Nd} {q : Int} (h : Bq N 0) (k : Cs N.m N.F N.L q) (h0 : q ≠ 0) : Cn N q := by
  obtain ⟨c, hc⟩ := Lsg.exists 12 N.k (fun i => (N.l i).nm) (fun i r => r = lkE N (N.l i)) (fun i => ⟨_, rfl⟩)
  exact ⟨0, q, c, h, k, hc, by unfold cnE; rw [if_neg (by decide), if_pos h0]⟩
theorem Cn.of_k {N : Nd} {q : Int} (h : Bq N 0) (k : Cs N.m N.F N.L 0) (l : Kq N q) : Cn N q :=
  ⟨0, 0, q, h, k, l, by unfold cnE; rw [if_neg (by decide), if_neg (by decide)]⟩
theorem Ixn.exists (n : Nat) (nm : Nat → ByteArray) (s : ByteArray) : ∃ r, Ixn n nm s r := by
  rcases first_bad (fun j => nm j ≠ s) n with h | ⟨i, h1, h2, h3⟩
  · exact ⟨-1, .inl ⟨rfl, h⟩⟩
  · exact ⟨i, .inr ⟨i, h1, h2, Classical.byContradiction h3, rfl⟩⟩
/-- The first item with the name of item i. -/
theorem ix_own {n : Nat} {nm : Nat → ByteArray} {i : Nat} {r : Int} (hi : i < n) (h : Ixn n nm (nm i) r) : (r = (i : Int) ↔ ∀ k, k < i → nm k ≠ nm i) ∧ 0 ≤ r ∧ r ≤ i := by
  rcases h with ⟨rfl, h⟩ | ⟨j, hj, h1, h2, rfl⟩
  · exact absurd rfl (h i hi)
  · have hji : j ≤ i := Nat.le_of_not_lt fun e => h1 i e rfl
    refine ⟨⟨fun e k hk => h1 k (by omega), fun h => ?_⟩, by omega, by omega⟩
    rcases Nat.lt_or_ge j i with e | e
    · exact absurd h2 (h j e)
    · omega
section
variable {w : World} {B0 : Nat} {N : Nd}
theorem rBasin_is {s : ByteArray} {q : Int} (hq : Hid (Ixn N.n N.bnm s q)) (h : Nt w B0 N) (hs : Nsm N) :
    Calls Try.prog 28 #[.agg #[.slice N.A N.n N.c, .slice N.M N.m N.d, .slice N.K N.k N.e], .string s] w fun e w' => e = .returned (.int .i64 q) ∧ Below w.heap.size w w' :=
  (rBasin_any s h hs.n).mono fun _ _ ⟨r, he, hr, hb⟩ => ⟨by rw [he, hr.out.same hq.out], hb⟩
theorem rLink_is {s : ByteArray} {q : Int} (hq : Hid (Ixn N.k N.lnm s q)) (h : Nt w B0 N) (hs : Nsm N) :
    Calls Try.prog 44 #[.agg #[.slice N.A N.n N.c, .slice N.M N.m N.d, .slice N.K N.k N.e], .string s] w fun e w' => e = .returned (.int .i64 q) ∧ Below w.heap.size w w' :=
  (rLink_any s h hs.k).mono fun _ _ ⟨r, he, hr, hb⟩ => ⟨by rw [he, hr.out.same hq.out], hb⟩
theorem findBasin_is {s : ByteArray} {q : Int} (hq : Hid (Ixn N.n N.bnm s q)) (h : Nt w B0 N) (hs : Nsm N) :
    Calls Try.prog 48 #[.agg #[.slice N.A N.n N.c, .slice N.M N.m N.d, .slice N.K N.k N.e], .string s] w fun e w' => e = .returned (.int .i64 q) ∧ Below w.heap.size w w' :=
  (findBasin_any s h hs.n).mono fun _ _ ⟨r, he, hr, hb⟩ => ⟨by rw [he, hr.out.same hq.out], hb⟩
theorem findLink_is {s : ByteArray} {q : Int} (hq : Hid (Ixn N.k N.lnm s q)) (h : Nt w B0 N) (hs : Nsm N) :
    Calls Try.prog 62 #[.agg #[.slice N.A N.n N.c, .slice N.M N.m N.d, .slice N.K N.k N.e], .string s] w fun e w' => e = .returned (.int .i64 q) ∧ Below w.heap.size w w' :=
  (findLink_any s h hs.k).mono fun _ _ ⟨r, he, hr, hb⟩ => ⟨by rw [he, hr.out.same hq.out], hb⟩
theorem rBasin_isA {s : ByteArray} {q : Int} {A' : Option Addr} (hA : N.A = A') (hq : Hid (Ixn N.n N.bnm s q)) (h : Nt w B0 N) (hs : Nsm N) :
    Calls Try.prog 28 #[.agg #[.slice A' N.n N.c, .slice N.M N.m N.d, .slice N.K N.k N.e], .string s] w fun e w' => e = .returned (.int .i64 q) ∧ Below w.heap.size w w' := by
  subst hA; exact rBasin_is hq h hs
theorem rLink_isA {s : ByteArray} {q : Int} {K' : Option Addr} (hA : N.K = K') (hq : Hid (Ixn N.k N.lnm s q)) (h : Nt w B0 N) (hs : Nsm N) :
    Calls Try.prog 44 #[.agg #[.slice N.A N.n N.c, .slice N.M N.m N.d, .slice K' N.k N.e], .string s] w fun e w' => e = .returned (.int .i64 q) ∧ Below w.heap.size w w' := by
  subst hA; exact rLink_is hq h hs
end
/-- A network in a box, and what stands at its basin i. -/
structure Nbi (w : World) (g B0 : Nat) (N : Nd) (ad : Addr) (i : Nat) : Prop where
  n : Nb w g B0 N
  c : w.cell? (ad.add (i * 3)) = some (.string (N.b i).nm)
  l : ad.block < B0
theorem Nbi.below {w w' : World} {g B0 : Nat} {N : Nd} {ad : Addr} {i : Nat} (h : Nbi w g B0 N ad i) (hb : Below w.heap.size w w') : Nbi w' g B0 N ad i :=
  ⟨h.n.below hb, (hb.cell (p := ad.add (i * 3)) (in_add (Nat.lt_of_lt_of_le h.l h.n.a.b.le))).trans h.c, h.l⟩
theorem Nbi.cells {w' : World} {g B0 : Nat} {N : Nd} {ad : Addr} {i : Nat} (h : Nbi w' g B0 N ad i) : w'.cell? ⟨g, 0, none⟩ = some (.slice N.A N.n N.c) ∧ w'.cell? ⟨g, 1, none⟩ = some (.slice N.M N.m N.d) ∧ w'.cell? ⟨g, 2, none⟩ = some (.slice N.K N.k N.e) ∧ w'.cell? (ad.add (i * 3)) = some (.string (N.b i).nm) := by
  obtain ⟨a, b, c⟩ := h.n.cells
  exact ⟨a, b, c, h.c⟩
theorem Nbi.cells0 {w' : World} {g B0 : Nat} {N : Nd} {ad : Addr} {i : Nat} (hA : N.A = some ad) (h : Nbi w' g B0 N ad i) : w'.cell? ⟨g, 0, none⟩ = some (.slice (some ad) N.n N.c) ∧ w'.cell? ⟨g, 1, none⟩ = some (.slice N.M N.m N.d) ∧ w'.cell? ⟨g, 2, none⟩ = some (.slice N.K N.k N.e) ∧ w'.cell? (ad.add (i * 3)) = some (.string (N.b i).nm) := by
  rw [← hA]; exact h.cells
/-- A network in a box, and what stands at its link i. -/
structure Nli (w : World) (g B0 : Nat) (N : Nd) (ad : Addr) (i : Nat) : Prop where
  n : Nb w g B0 N
  A : N.K = some ad
  i : i < N.k
theorem Nli.below {w w' : World} {g B0 : Nat} {N : Nd} {ad : Addr} {i : Nat} (h : Nli w g B0 N ad i) (hb : Below w.heap.size w w') : Nli w' g B0 N ad i := ⟨h.n.below hb, h.A, h.i⟩
theorem Nli.cells {w' : World} {g B0 : Nat} {N : Nd} {ad : Addr} {i : Nat} (h : Nli w' g B0 N ad i) : w'.cell? ⟨g, 0, none⟩ = some (.slice N.A N.n N.c) ∧ w'.cell? ⟨g, 1, none⟩ = some (.slice N.M N.m N.d) ∧ w'.cell? ⟨g, 2, none⟩ = some (.slice (some ad) N.k N.e) ∧ w'.cell? (ad.add (i * 8)) = some (.string (N.l i).nm) ∧ w'.cell? ⟨(ad.add (i * 8)).block, (ad.add (i * 8)).off + 1, none⟩ = some (.int .i64 (N.l i).kind) ∧ w'.cell? ⟨(ad.add (i * 8)).block, (ad.add (i * 8)).off + 2, none⟩ = some (.string (N.l i).fr) ∧ w'.cell? ⟨(ad.add (i * 8)).block, (ad.add (i * 8)).off + 3, none⟩ = some (.string (N.l i).tw) ∧ w'.cell? ⟨(ad.add (i * 8)).block, (ad.add (i * 8)).off + 4, none⟩ = some (.int .i64 (N.l i).sill) ∧ w'.cell? ⟨(ad.add (i * 8)).block, (ad.add (i * 8)).off + 5, none⟩ = some (.int .i64 (N.l i).rate) ∧ w'.cell? ⟨(ad.add (i * 8)).block, (ad.add (i * 8)).off + 6, none⟩ = some (.int .i64 (N.l i).fac) ∧ w'.cell? ⟨(ad.add (i * 8)).block, (ad.add (i * 8)).off + 7, none⟩ = some (.int .i64 (N.l i).lift) := by
  obtain ⟨a, b, c⟩ := h.n.cells
  obtain ⟨ad', hA, hl, q0, q1, q2, q3, q4, q5, q6, q7⟩ := h.n.a.l.at_ i h.i
  rw [h.A] at hA c
  injection hA with hA
  subst hA
  exact ⟨a, b, c, q0, q1, q2, q3, q4, q5, q6, q7⟩

set_option maxRecDepth 100000 in
set_option maxHeartbeats 16000000 in
theorem rCheckNetwork_any {w : World} {B0 : Nat} {N : Nd} (h : Nt w B0 N) (hs : Nsm N) :
    Calls Try.prog 38 #[.agg #[.slice N.A N.n N.c, .slice N.M N.m N.d, .slice N.K N.k N.e]] w fun e w' => ∃ q : Int, e = .returned (.int .i64 q) ∧ Hid (Cn N q) ∧ Below w.heap.size w w' := by
  have hnn := hs.n
  have hkk := hs.k
  have HM := hid (Nat.le_trans h.md h.dm)
  have hm9 : N.m ≤ 9223372036854775807 := by have := HM.out; unfold maxLen at this; omega
  obtain ⟨g, hg⟩ : ∃ g, w.heap.size = g := ⟨_, rfl⟩
  have hb0 := alo (W := w) (o := .cells #[.slice N.A N.n N.c, .slice N.M N.m N.d, .slice N.K N.k N.e] 26)
  have K1 := Nb.new h hg
  by_cases h8 : 8 < N.n
  · have hd : decide ((8 : Int) < (N.n : Int)) = true := decide_eq_true (by omega)
    have HE := hid (Cn.of_b (N := N) (q := 8) (.inl ⟨h8, rfl⟩) (by decide))
    go_enter Try.func38, Try.ntmps38
    go_wp2
    go_ret
    exact ⟨8, rfl, HE, hb0⟩
  · have hd : decide ((8 : Int) < (N.n : Int)) = false := decide_eq_false (by omega)
    go_enter Try.func38, Try.ntmps38
    go_wp2_with fail
    clear hd
    generalize w.alloc (.cells #[.slice N.A N.n N.c, .slice N.M N.m N.d, .slice N.K N.k N.e] 26) = W0 at *
    have HB0 := hid hb0
    have Hh := hid h
    have Hg := hid hg
    clear hb0 h hg
    go_loopw [3, 4] (fun iv _ wr => ∃ (i : Nat), i ≤ N.n ∧ iv = .int .i64 i ∧ Hid (∀ j, j < i → LGood (fun i => (N.b i).nm) (fun i r => Sz (N.b i).n (N.b i).F (N.b i).S (N.b i).rim r) j) ∧ Below W0.heap.size W0 wr) (fun iv _ _ => N.n - (intOf iv).toNat)
    case atStart => exact ⟨0, Nat.zero_le _, rfl, hid (fun j hj => absurd hj (Nat.not_lt_zero _)), Below.refl _ _⟩
    case round =>
      obtain ⟨i, hi, rfl, HN, hbel⟩ := hrel
      have K2 := K1.below hbel
      have HB := hid (bthen HB0.out hbel (Nat.le_refl _))
      have Hbel := hid hbel
      clear hbel
      obtain ⟨x0, x1, x2⟩ := K2.cells
      by_cases hlt : i < N.n
      · obtain ⟨ad, hA, hl, q0, q1, q2, hP, hP1, hP2⟩ := K2.a.b.at_ i hlt
        have HA := hid hA
        rw [hA] at x0
        have HP := hid hP
        have HP1 := hid (Nat.le_trans hP1 hP2)
        clear hA hP hP1 hP2
        have hsz : (N.b i).nm.size ≤ 1000000000 := Nat.le_trans (hs.b i hlt) (by decide)
        have wbad := fun (r : Int) (h0 : r ≠ 0) (hx : LBad (fun i => (N.b i).nm) (fun i r => Sz (N.b i).n (N.b i).F (N.b i).S (N.b i).rim r) i r) => hid (Cn.of_b (N := N) (q := r) (.inr ⟨by omega, .inl ⟨i, hlt, HN.out, hx⟩⟩) h0)
        have Wbad := hid wbad
        clear wbad
        have hd1 : decide ((i : Int) < (N.n : Int)) = true := decide_eq_true (by omega)
        by_cases hnm : nameB (N.b i).nm = true
        · have HNM := hid hnm
          obtain ⟨r, hr⟩ := Ixn.exists N.n N.bnm (N.b i).nm
          obtain ⟨hr1, hr2, hr3⟩ := ix_own (nm := N.bnm) hlt hr
          have HR := hid hr
          have HR1 := hid hr1
          clear hr hr1
          have D0 : Nbi wr.drew g B0 N ad i := (Nbi.mk K2 q0 hl).below dr0
          by_cases hri : r = (i : Int)
          · have dri : (r != (i : Int)) = false := by rw [bne_eq_false_iff_eq]; exact hri
            have Hno := hid (HR1.out.1 hri)
            clear hri
            go_wp2_with (((with_reducible refine (rIsName_any _ _ hsz).mono ?_); rintro e w' ⟨rfl, rfl⟩))
            go_region_held3 (fun w' => w'.cell? ⟨g, 0, none⟩ = some (.slice (some ad) N.n N.c) ∧ w'.cell? ⟨g, 1, none⟩ = some (.slice N.M N.m N.d) ∧ w'.cell? ⟨g, 2, none⟩ = some (.slice N.K N.k N.e) ∧ w'.cell? (ad.add (i * 3)) = some (.string (N.b i).nm)) (first | with_reducible exact Nbi.cells0 HA.out D0 | with_reducible exact Nbi.cells0 HA.out D1) (first
              | (go_at_call 28; with_reducible refine (rBasin_isA HA.out HR D0.n.a hs).mono ?_; rintro e w3 ⟨rfl, hb3⟩; have D1 := D0.below hb3))
            have HB3 := hid (Hbel.out.drew.trans (hb3.mono Hbel.out.drew.size))
            have HBw3 := hid (bthen HB.out.drew hb3 (Nat.le_refl _))
            have K3 := D1.n
            clear hb3 D0 D1 x0 x1 x2 q0 q1 q2
            obtain ⟨x0, x1, x2⟩ := K3.cells
            obtain ⟨ad', hA', hl', q0, q1, q2, hP, hP1, hP2⟩ := K3.a.b.at_ i hlt
            rw [HA.out] at hA' x0
            injection hA' with hA'
            subst hA'
            have HP3 := hid hP
            clear hP hP1 hP2
            go_wp2_with fail
            refine (rCheckBasin_any HP3.out HP1.out hsz).mono ?_
            rintro e w4 ⟨r4, rfl, hr4, hb4⟩
            have HZ : Hid (Sz (N.b i).n (N.b i).F (N.b i).S (N.b i).rim r4) := hid (by
              rcases hr4.out with ⟨h1, _⟩ | ⟨_, h2⟩
              · rw [HNM.out] at h1; cases h1
              · exact h2)
            have HB4 := hid (HB3.out.trans (hb4.mono HB3.out.size))
            have HBw4 := hid (bthen HBw3.out hb4 (Nat.le_refl _))
            clear hb4 hr4 x0 x1 x2 q0 q1 q2 hnm
            by_cases h0 : r4 = 0
            · subst h0
              have HG := hid (show LGood (fun i => (N.b i).nm) (fun i r => Sz (N.b i).n (N.b i).F (N.b i).S (N.b i).rim r) i from ⟨HNM.out, Hno.out, HZ.out⟩)
              go_wp2
              go_roundw
              case rel => exact ⟨i + 1, by omega, by go_num, hid (fun j hj => by rcases Nat.lt_or_ge j i with h | h; exact HN.out j h; have : j = i := (by omega); subst this; exact HG.out), HB4.out⟩
              case measure => simp [intOf]; omega
            · have hq1 : (r4 != 0) = true := by rw [bne_iff_ne]; exact h0
              have HE := Wbad.out r4 h0 (.inr (.inr ⟨HNM.out, Hno.out, HZ.out, h0⟩))
              clear h0
              go_wp2
              go_ret
              exact ⟨r4, rfl, HE, HBw4.out⟩
          · have dri : (r != (i : Int)) = true := by rw [bne_iff_ne]; exact hri
            have hex : ∃ k, k < i ∧ (N.b k).nm = (N.b i).nm := Classical.byContradiction fun e => hri (HR1.out.2 fun k hk e' => e ⟨k, hk, e'⟩)
            have HE := Wbad.out 5 (by decide) (.inr (.inl ⟨hnm, hex, rfl⟩))
            clear hri hex
            go_wp2_with (((with_reducible refine (rIsName_any _ _ hsz).mono ?_); rintro e w' ⟨rfl, rfl⟩))
            go_region_held3 (fun w' => w'.cell? ⟨g, 0, none⟩ = some (.slice (some ad) N.n N.c) ∧ w'.cell? ⟨g, 1, none⟩ = some (.slice N.M N.m N.d) ∧ w'.cell? ⟨g, 2, none⟩ = some (.slice N.K N.k N.e) ∧ w'.cell? (ad.add (i * 3)) = some (.string (N.b i).nm)) (first | with_reducible exact Nbi.cells0 HA.out D0 | with_reducible exact Nbi.cells0 HA.out D1) (first
              | (go_at_call 28; with_reducible refine (rBasin_isA HA.out HR D0.n.a hs).mono ?_; rintro e w3 ⟨rfl, hb3⟩; have D1 := D0.below hb3))
            have HBw3 := hid (bthen HB.out.drew hb3 (Nat.le_refl _))
            clear hb3 D0 D1 x0 x1 x2 q0 q1 q2
            go_wp2
            go_ret
            exact ⟨5, rfl, HE, HBw3.out⟩
        · have hnm' := Bool.eq_false_iff.2 hnm
          have HE := Wbad.out 4 (by decide) (.inl ⟨hnm', rfl⟩)
          clear hnm
          go_wp2_with (((with_reducible refine (rIsName_any _ _ hsz).mono ?_); rintro e w' ⟨rfl, rfl⟩))
          go_ret
          exact ⟨4, rfl, HE, HB.out⟩
      · have e : i = N.n := by omega
        have HBq := hid (show Bq N 0 from .inr ⟨by omega, .inr ⟨by rw [← e]; exact HN.out, rfl⟩⟩)
        have hd1 : decide ((i : Int) < (N.n : Int)) = false := decide_eq_false (by omega)
        clear e
        obtain ⟨W1, hW1⟩ : ∃ W1, W1 = wr := ⟨_, rfl⟩
        subst hW1
        go_wp2_with fail
        refine (rCheckSea_any K2.a.s HM.out).mono ?_
        rintro e w3 ⟨q, rfl, hq, hb3⟩
        have K3 := K2.below hb3
        have HB3 := hid (bthen HB.out hb3 (Nat.le_refl _))
        clear hb3 x0 x1 x2 hd1
        obtain ⟨x0, x1, x2⟩ := K3.cells
        by_cases h0 : q = 0
        · subst h0
          by_cases h12 : 12 < N.k
          · have hd2 : decide ((12 : Int) < (N.k : Int)) = true := decide_eq_true (by omega)
            have HE := hid (Cn.of_k (N := N) (q := 8) HBq.out hq.out (.inl ⟨h12, rfl⟩))
            go_wp2
            go_ret
            exact ⟨8, rfl, HE, HB3.out⟩
          · have hd2 : decide ((12 : Int) < (N.k : Int)) = false := decide_eq_false (by omega)
            go_wp2_with fail
            clear hd2 x0 x1 x2
            go_loopw [6, 7] (fun iv _ wr => ∃ (j : Nat), j ≤ N.k ∧ iv = .int .i64 j ∧ Hid (∀ k, k < j → LGood (fun i => (N.l i).nm) (fun i r => r = lkE N (N.l i)) k) ∧ Below w3.heap.size w3 wr) (fun iv _ _ => N.k - (intOf iv).toNat)
            case atStart => exact ⟨0, Nat.zero_le _, rfl, hid (fun j hj => absurd hj (Nat.not_lt_zero _)), Below.refl _ _⟩
            case round =>
              obtain ⟨j, hj, rfl, HL, hbel2⟩ := hrel
              have K4 := K3.below hbel2
              have HB4 := hid (bthen HB3.out hbel2 (Nat.le_refl _))
              have Hbel2 := hid hbel2
              clear hbel2
              obtain ⟨x0, x1, x2⟩ := K4.cells
              by_cases hjlt : j < N.k
              · obtain ⟨ad, hA, hl, q0, q1, q2, q3, q4, q5, q6, q7⟩ := K4.a.l.at_ j hjlt
                have HA := hid hA
                rw [hA] at x2
                clear hA
                have hsz : (N.l j).nm.size ≤ 1000000000 := Nat.le_trans (hs.l j hjlt) (by decide)
                have wbad := fun (r : Int) (hx : LBad (fun i => (N.l i).nm) (fun i r => r = lkE N (N.l i)) j r) => hid (Cn.of_k (N := N) (q := r) HBq.out hq.out (.inr ⟨by omega, .inl ⟨j, hjlt, HL.out, hx⟩⟩))
                have Wbad := hid wbad
                clear wbad
                have hd1 : decide ((j : Int) < (N.k : Int)) = true := decide_eq_true (by omega)
                by_cases hnm : nameB (N.l j).nm = true
                · have HNM := hid hnm
                  obtain ⟨r, hr⟩ := Ixn.exists N.k N.lnm (N.l j).nm
                  obtain ⟨hr1, hr2, hr3⟩ := ix_own (nm := N.lnm) hjlt hr
                  have HR := hid hr
                  have HR1 := hid hr1
                  clear hr hr1
                  have D0 : Nli wr.drew g B0 N ad j := (Nli.mk K4 HA.out hjlt).below dr0
                  by_cases hri : r = (j : Int)
                  · have dri : (r != (j : Int)) = false := by rw [bne_eq_false_iff_eq]; exact hri
                    have Hno := hid (HR1.out.1 hri)
                    clear hri
                    go_wp2_with (((with_reducible refine (rIsName_any _ _ hsz).mono ?_); rintro e w' ⟨rfl, rfl⟩))
                    go_region_held3 (fun w' => w'.cell? ⟨g, 0, none⟩ = some (.slice N.A N.n N.c) ∧ w'.cell? ⟨g, 1, none⟩ = some (.slice N.M N.m N.d) ∧ w'.cell? ⟨g, 2, none⟩ = some (.slice (some ad) N.k N.e) ∧ w'.cell? (ad.add (j * 8)) = some (.string (N.l j).nm) ∧ w'.cell? ⟨(ad.add (j * 8)).block, (ad.add (j * 8)).off + 1, none⟩ = some (.int .i64 (N.l j).kind) ∧ w'.cell? ⟨(ad.add (j * 8)).block, (ad.add (j * 8)).off + 2, none⟩ = some (.string (N.l j).fr) ∧ w'.cell? ⟨(ad.add (j * 8)).block, (ad.add (j * 8)).off + 3, none⟩ = some (.string (N.l j).tw) ∧ w'.cell? ⟨(ad.add (j * 8)).block, (ad.add (j * 8)).off + 4, none⟩ = some (.int .i64 (N.l j).sill) ∧ w'.cell? ⟨(ad.add (j * 8)).block, (ad.add (j * 8)).off + 5, none⟩ = some (.int .i64 (N.l j).rate) ∧ w'.cell? ⟨(ad.add (j * 8)).block, (ad.add (j * 8)).off + 6, none⟩ = some (.int .i64 (N.l j).fac) ∧ w'.cell? ⟨(ad.add (j * 8)).block, (ad.add (j * 8)).off + 7, none⟩ = some (.int .i64 (N.l j).lift)) (first | with_reducible exact Nli.cells D0 | with_reducible exact Nli.cells D1) (first
                      | (go_at_call 44; with_reducible refine (rLink_isA HA.out HR D0.n.a hs).mono ?_; rintro e w5 ⟨rfl, hb5⟩; have D1 := D0.below hb5))
                    have HB5 := hid (Hbel2.out.drew.trans (hb5.mono Hbel2.out.drew.size))
                    have HBw5 := hid (bthen HB4.out.drew hb5 (Nat.le_refl _))
                    clear hb5 D0 x0 x1 x2 q0 q1 q2 q3 q4 q5 q6 q7
                    obtain ⟨x0, x1, x2, q0, q1, q2, q3, q4, q5, q6, q7⟩ := D1.cells
                    have E0 : Nli w5.drew g B0 N ad j := D1.below dr0
                    obtain ⟨v, hv⟩ : ∃ v, lkE N (N.l j) = v := ⟨_, rfl⟩
                    have hcl : ∀ (W : World) (B1 : Nat), Nt W B1 N → ( Calls Try.prog 68 #[.agg #[.slice N.A N.n N.c, .slice N.M N.m N.d, .slice (some ad) N.k N.e], .agg #[.string (N.l j).nm, .int .i64 (N.l j).kind, .string (N.l j).fr, .string (N.l j).tw, .int .i64 (N.l j).sill, .int .i64 (N.l j).rate, .int .i64 (N.l j).fac, .int .i64 (N.l j).lift]] W fun e w' => e = .returned (.int .i64 v) ∧ Below W.heap.size W w') := fun W B1 hh => by
                      rw [← HA.out, ← hv]
                      exact checkLink_any (N.l j) hh hs.n
                    have Hcl := hid hcl
                    have Hv := hid hv
                    clear hcl hv
                    go_wp2_with fail
                    go_region_held3 (fun w' => w'.cell? ⟨g, 0, none⟩ = some (.slice N.A N.n N.c) ∧ w'.cell? ⟨g, 1, none⟩ = some (.slice N.M N.m N.d) ∧ w'.cell? ⟨g, 2, none⟩ = some (.slice (some ad) N.k N.e) ∧ w'.cell? (ad.add (j * 8)) = some (.string (N.l j).nm) ∧ w'.cell? ⟨(ad.add (j * 8)).block, (ad.add (j * 8)).off + 1, none⟩ = some (.int .i64 (N.l j).kind) ∧ w'.cell? ⟨(ad.add (j * 8)).block, (ad.add (j * 8)).off + 2, none⟩ = some (.string (N.l j).fr) ∧ w'.cell? ⟨(ad.add (j * 8)).block, (ad.add (j * 8)).off + 3, none⟩ = some (.string (N.l j).tw) ∧ w'.cell? ⟨(ad.add (j * 8)).block, (ad.add (j * 8)).off + 4, none⟩ = some (.int .i64 (N.l j).sill) ∧ w'.cell? ⟨(ad.add (j * 8)).block, (ad.add (j * 8)).off + 5, none⟩ = some (.int .i64 (N.l j).rate) ∧ w'.cell? ⟨(ad.add (j * 8)).block, (ad.add (j * 8)).off + 6, none⟩ = some (.int .i64 (N.l j).fac) ∧ w'.cell? ⟨(ad.add (j * 8)).block, (ad.add (j * 8)).off + 7, none⟩ = some (.int .i64 (N.l j).lift)) (first | with_reducible exact Nli.cells E0 | with_reducible exact Nli.cells E1) (first
                      | (go_at_call 68; with_reducible refine (Hcl.out _ _ E0.n.a).mono ?_; rintro e w6 ⟨rfl, hb6⟩; have E1 := E0.below hb6))
                    have HB6 := hid (HB5.out.drew.trans (hb6.mono HB5.out.drew.size))
                    have HBw6 := hid (bthen HBw5.out.drew hb6 (Nat.le_refl _))
                    clear hb6 E0 E1 D1 x0 x1 x2 q0 q1 q2 q3 q4 q5 q6 q7 hnm
                    by_cases h0 : v = 0
                    · subst h0
                      have HG := hid (show LGood (fun i => (N.l i).nm) (fun i r => r = lkE N (N.l i)) j from ⟨HNM.out, Hno.out, Hv.out.symm⟩)
                      go_wp2
                      go_roundw
                      case rel => exact ⟨j + 1, by omega, by go_num, hid (fun k hk => by rcases Nat.lt_or_ge k j with h | h; exact HL.out k h; have : k = j := (by omega); subst this; exact HG.out), HB6.out⟩
                      case measure => simp [intOf]; omega
                    · have hq1 : (v != 0) = true := by rw [bne_iff_ne]; exact h0
                      have HE := Wbad.out v (.inr (.inr ⟨HNM.out, Hno.out, Hv.out.symm, h0⟩))
                      clear h0
                      go_wp2
                      go_ret
                      exact ⟨v, rfl, HE, HBw6.out⟩
                  · have dri : (r != (j : Int)) = true := by rw [bne_iff_ne]; exact hri
                    have hex : ∃ k, k < j ∧ (N.l k).nm = (N.l j).nm := Classical.byContradiction fun e => hri (HR1.out.2 fun k hk e' => e ⟨k, hk, e'⟩)
                    have HE := Wbad.out 5 (.inr (.inl ⟨hnm, hex, rfl⟩))
                    clear hri hex
                    go_wp2_with (((with_reducible refine (rIsName_any _ _ hsz).mono ?_); rintro e w' ⟨rfl, rfl⟩))
                    go_region_held3 (fun w' => w'.cell? ⟨g, 0, none⟩ = some (.slice N.A N.n N.c) ∧ w'.cell? ⟨g, 1, none⟩ = some (.slice N.M N.m N.d) ∧ w'.cell? ⟨g, 2, none⟩ = some (.slice (some ad) N.k N.e) ∧ w'.cell? (ad.add (j * 8)) = some (.string (N.l j).nm) ∧ w'.cell? ⟨(ad.add (j * 8)).block, (ad.add (j * 8)).off + 1, none⟩ = some (.int .i64 (N.l j).kind) ∧ w'.cell? ⟨(ad.add (j * 8)).block, (ad.add (j * 8)).off + 2, none⟩ = some (.string (N.l j).fr) ∧ w'.cell? ⟨(ad.add (j * 8)).block, (ad.add (j * 8)).off + 3, none⟩ = some (.string (N.l j).tw) ∧ w'.cell? ⟨(ad.add (j * 8)).block, (ad.add (j * 8)).off + 4, none⟩ = some (.int .i64 (N.l j).sill) ∧ w'.cell? ⟨(ad.add (j * 8)).block, (ad.add (j * 8)).off + 5, none⟩ = some (.int .i64 (N.l j).rate) ∧ w'.cell? ⟨(ad.add (j * 8)).block, (ad.add (j * 8)).off + 6, none⟩ = some (.int .i64 (N.l j).fac) ∧ w'.cell? ⟨(ad.add (j * 8)).block, (ad.add (j * 8)).off + 7, none⟩ = some (.int .i64 (N.l j).lift)) (first | with_reducible exact Nli.cells D0 | with_reducible exact Nli.cells D1) (first
                      | (go_at_call 44; with_reducible refine (rLink_isA HA.out HR D0.n.a hs).mono ?_; rintro e w5 ⟨rfl, hb5⟩; have D1 := D0.below hb5))
                    have HBw5 := hid (bthen HB4.out.drew hb5 (Nat.le_refl _))
                    clear hb5 D0 D1 x0 x1 x2 q0 q1 q2 q3 q4 q5 q6 q7
                    go_wp2
                    go_ret
                    exact ⟨5, rfl, HE, HBw5.out⟩
                · have hnm' := Bool.eq_false_iff.2 hnm
                  have HE := Wbad.out 4 (.inl ⟨hnm', rfl⟩)
                  clear hnm
                  go_wp2_with (((with_reducible refine (rIsName_any _ _ hsz).mono ?_); rintro e w' ⟨rfl, rfl⟩))
                  go_ret
                  exact ⟨4, rfl, HE, HB4.out⟩
              · have e : j = N.k := by omega
                have HE := hid (Cn.of_k (N := N) (q := 0) HBq.out hq.out (.inr ⟨by omega, .inr ⟨by rw [← e]; exact HL.out, rfl⟩⟩))
                have hd1 : decide ((j : Int) < (N.k : Int)) = false := decide_eq_false (by omega)
                clear e
                go_wp2
                go_ret
                exact ⟨0, rfl, HE, HB4.out⟩
        · have hq1 : (q != 0) = true := by rw [bne_iff_ne]; exact h0
          have HE := hid (Cn.of_s HBq.out hq.out h0)
          clear h0
          go_wp2
          go_ret
          exact ⟨q, rfl, HE, HB3.out⟩

end Go.Proofs.Ytockfiobhmohnaa

namespace Go.Proofs.Ytockfiobhmohnaa
open Go.RowKit Go.Maps Kb Wb

/-- A state: its minute, litres, and which links are open. -/
structure Wd where
  min : Int
  A : Option Addr
  n : Nat
  c : Nat
  X : Nat → Int
  M : Option Addr
  m : Nat
  d : Nat
  Y : Nat → Bool
structure Wt (w : World) (B0 : Nat) (W : Wd) : Prop where
  x : ∀ i, i < W.n → ∃ ad, W.A = some ad ∧ ad.block < B0 ∧ w.cell? (ad.add i) = some (.int .i64 (W.X i))
  y : ∀ i, i < W.m → ∃ ad, W.M = some ad ∧ ad.block < B0 ∧ w.cell? (ad.add i) = some (.bool (W.Y i))
  le : B0 ≤ w.heap.size
  nc : W.n ≤ W.c
  cm : W.c ≤ maxLen
  md : W.m ≤ W.d
  dm : W.d ≤ maxLen
theorem Wt.below {w w' : World} {B0 : Nat} {W : Wd} (h : Wt w B0 W) (hb : Below w.heap.size w w') : Wt w' B0 W :=
  ⟨fun i hi => by
    obtain ⟨ad, e, h1, h2⟩ := h.x i hi
    exact ⟨ad, e, h1, (hb.cell (p := ad.add i) (in_add (Nat.lt_of_lt_of_le h1 h.le))).trans h2⟩, fun i hi => by
    obtain ⟨ad, e, h1, h2⟩ := h.y i hi
    exact ⟨ad, e, h1, (hb.cell (p := ad.add i) (in_add (Nat.lt_of_lt_of_le h1 h.le))).trans h2⟩, Nat.le_trans h.le hb.size, h.nc, h.cm, h.md, h.dm⟩
/-- A state in a box. -/
structure Wx (w : World) (g B0 : Nat) (W : Wd) : Prop where
  b : Bk w g (.cells #[.int .i64 W.min, .slice W.A W.n W.c, .slice W.M W.m W.d] 30)
  a : Wt w B0 W
section
variable {w w' : World} {g B0 : Nat} {W : Wd}
theorem Wx.below (h : Wx w g B0 W) (hb : Below w.heap.size w w') : Wx w' g B0 W := ⟨h.b.step hb, h.a.below hb⟩
theorem Wx.cells (h : Wx w g B0 W) : w.cell? ⟨g, 0, none⟩ = some (.int .i64 W.min) ∧ w.cell? ⟨g, 1, none⟩ = some (.slice W.A W.n W.c) ∧ w.cell? ⟨g, 2, none⟩ = some (.slice W.M W.m W.d) := h.b.c3
end
/-- The most that basin i holds. -/
def capB (b : Bd) : Int := wbelow b.F b.S b.n b.rim
/-- Whether the litres of basin i are within its capacity. -/
def LitOk (N : Nd) (W : Wd) (i : Nat) : Prop := 0 ≤ W.X i ∧ W.X i ≤ capB (N.b i)
/-- r is the error of a state. -/
def We (N : Nd) (W : Wd) (r : Int) : Prop := ∃ q, Cn N q ∧ ((q ≠ 0 ∧ r = q) ∨ (q = 0 ∧ ((¬ (0 ≤ W.min ∧ W.min ≤ 1000000) ∧ r = 2) ∨ ((0 ≤ W.min ∧ W.min ≤ 1000000) ∧ ((¬ (W.n = N.n ∧ W.m = N.k) ∧ r = 11) ∨ ((W.n = N.n ∧ W.m = N.k) ∧ ((¬ (∀ i, i < N.n → LitOk N W i) ∧ r = 2) ∨ ((∀ i, i < N.n → LitOk N W i) ∧ r = 0))))))))
theorem We.same {N : Nd} {W : Wd} {r s : Int} (h : We N W r) (k : We N W s) : r = s := by
  obtain ⟨q, hq, h⟩ := h
  obtain ⟨p, hp, k⟩ := k
  have := hq.same hp
  subst this
  rcases h with ⟨h0, rfl⟩ | ⟨h0, ⟨h1, rfl⟩ | ⟨h1, ⟨h2, rfl⟩ | ⟨h2, ⟨h3, rfl⟩ | ⟨h3, rfl⟩⟩⟩⟩ <;> rcases k with ⟨k0, rfl⟩ | ⟨k0, ⟨k1, rfl⟩ | ⟨k1, ⟨k2, rfl⟩ | ⟨k2, ⟨k3, rfl⟩ | ⟨k3, rfl⟩⟩⟩⟩ <;> first | rfl | exact absurd k0 h0 | exact absurd h0 k0 | exact absurd k1 h1 | exact absurd h1 k1 | exact absurd k2 h2 | exact absurd h2 k2 | exact absurd k3 h3 | exact absurd h3 k3
theorem Cn.bas {N : Nd} (h : Cn N 0) {i : Nat} (hi : i < N.n) : Bas (N.b i).F (N.b i).S (N.b i).n (N.b i).rim := by
  rcases h.zero.1 with ⟨_, h⟩ | ⟨_, ⟨j, hj, _, h1⟩ | ⟨h1, _⟩⟩
  · cases h
  · rcases h1 with ⟨_, h⟩ | ⟨_, _, h⟩ | ⟨_, _, _, h⟩
    · cases h
    · cases h
    · exact absurd rfl h
  · exact (h1 i hi).2.2.bas
theorem Cn.few {N : Nd} (h : Cn N 0) : N.n ≤ 8 ∧ N.k ≤ 12 := by
  obtain ⟨h1, _, h3⟩ := h.zero
  refine ⟨?_, ?_⟩
  · rcases h1 with ⟨_, h⟩ | ⟨h, _⟩
    · cases h
    · exact h
  · rcases h3 with ⟨_, h⟩ | ⟨h, _⟩
    · cases h
    · exact h

/-- A state and a basin in boxes, and what stands at its litres. -/
structure Wbi (w : World) (g gb B0 B1 : Nat) (W : Wd) (b : Bd) (ad : Addr) (i : Nat) : Prop where
  v : Wx w g B0 W
  b : Bx w gb b.nm b.A b.n b.c b.rim B1 b.F b.S
  A : W.A = some ad
  i : i < W.n
theorem Wbi.below {w w' : World} {g gb B0 B1 : Nat} {W : Wd} {b : Bd} {ad : Addr} {i : Nat} (h : Wbi w g gb B0 B1 W b ad i) (hb : Below w.heap.size w w') : Wbi w' g gb B0 B1 W b ad i := ⟨h.v.below hb, h.b.below hb, h.A, h.i⟩
theorem Wbi.cells {w' : World} {g gb B0 B1 : Nat} {W : Wd} {b : Bd} {ad : Addr} {i : Nat} (h : Wbi w' g gb B0 B1 W b ad i) : w'.cell? ⟨g, 0, none⟩ = some (.int .i64 W.min) ∧ w'.cell? ⟨g, 1, none⟩ = some (.slice (some ad) W.n W.c) ∧ w'.cell? ⟨g, 2, none⟩ = some (.slice W.M W.m W.d) ∧ w'.cell? ⟨gb, 0, none⟩ = some (.string b.nm) ∧ w'.cell? ⟨gb, 1, none⟩ = some (.slice b.A b.n b.c) ∧ w'.cell? ⟨gb, 2, none⟩ = some (.int .i64 b.rim) ∧ w'.cell? (ad.add i) = some (.int .i64 (W.X i)) := by
  obtain ⟨a0, a1, a2⟩ := h.v.cells
  obtain ⟨b0, b1, b2⟩ := h.b.cells
  obtain ⟨ad', hA, _, q0⟩ := h.v.a.x i h.i
  rw [h.A] at hA a1
  injection hA with hA
  subst hA
  exact ⟨a0, a1, a2, b0, b1, b2, q0⟩

set_option maxRecDepth 100000 in
set_option maxHeartbeats 8000000 in
theorem waterError_any {w : World} {B0 B1 : Nat} {N : Nd} {W : Wd} (h : Nt w B0 N) (hs : Nsm N) (hw : Wt w B1 W) :
    Calls Try.prog 53 #[.agg #[.slice N.A N.n N.c, .slice N.M N.m N.d, .slice N.K N.k N.e], .agg #[.int .i64 W.min, .slice W.A W.n W.c, .slice W.M W.m W.d]] w fun e w' => ∃ r : Int, e = .returned (.int .i64 r) ∧ Hid (We N W r) ∧ Below w.heap.size w w' := by
  have hnn := hs.n
  have hkk := hs.k
  have hn9 : W.n ≤ 9223372036854775807 := by have := Nat.le_trans hw.nc hw.cm; unfold maxLen at this; omega
  have hm9 : W.m ≤ 9223372036854775807 := by have := Nat.le_trans hw.md hw.dm; unfold maxLen at this; omega
  obtain ⟨g, hg⟩ : ∃ g, w.heap.size = g := ⟨_, rfl⟩
  have hb0 := ((Below.refl w.heap.size w).alloc (Nat.le_refl _) (.cells #[.slice N.A N.n N.c, .slice N.M N.m N.d, .slice N.K N.k N.e] 26)).alloc (by simp) (.cells #[.int .i64 W.min, .slice W.A W.n W.c, .slice W.M W.m W.d] 30)
  have K1 := (Nb.new h hg).below (alo (o := .cells #[.int .i64 W.min, .slice W.A W.n W.c, .slice W.M W.m W.d] 30))
  have V1 : Wx _ (g + 1) B1 W := ⟨Bk.of_alloc (w.alloc (.cells #[.slice N.A N.n N.c, .slice N.M N.m N.d, .slice N.K N.k N.e] 26)) (.cells #[.int .i64 W.min, .slice W.A W.n W.c, .slice W.M W.m W.d] 30) (by simp [hg]), hw.below (hb0.mono (Nat.le_refl _))⟩
  go_enter Try.func53, Try.ntmps53
  go_wp2_with fail
  generalize (w.alloc (.cells #[.slice N.A N.n N.c, .slice N.M N.m N.d, .slice N.K N.k N.e] 26)).alloc (.cells #[.int .i64 W.min, .slice W.A W.n W.c, .slice W.M W.m W.d] 30) = W0 at *
  have HB0 := hid hb0
  have Hh := hid h
  have Hg := hid hg
  have Hw := hid hw
  clear hb0 h hg hw
  refine (CheckNetwork_any K1.a hs).mono ?_
  rintro e w2 ⟨q, rfl, hq, hb⟩
  have K2 := K1.below hb
  have V2 := V1.below hb
  have HB2 := hid (bthen HB0.out hb (Nat.le_refl _))
  clear hb K1 V1
  obtain ⟨x0, x1, x2⟩ := K2.cells
  obtain ⟨y0, y1, y2⟩ := V2.cells
  by_cases h0 : q = 0
  · subst h0
    have HQ : Hid (Cn N 0) := hq
    by_cases hm : inB W.min 0 1000000 = true
    · have hm' := inB_iff.1 hm
      by_cases hln : W.n = N.n ∧ W.m = N.k
      · have Hln := hid hln
        have d1 : ((W.n : Int) != (N.n : Int)) = false := by rw [bne_eq_false_iff_eq]; omega
        have d2 : ((W.m : Int) != (N.k : Int)) = false := by rw [bne_eq_false_iff_eq]; omega
        clear hln
        go_wp2_with (((with_reducible refine (isMinute_any _ _).mono ?_); rintro e w' ⟨rfl, rfl⟩))
        clear d1 d2 x0 x1 x2 y0 y1 y2
        have hfew := HQ.out.few
        go_loopw [36] (fun iv wr => ∃ (i : Nat), i ≤ N.n ∧ iv = .int .i64 i ∧ Hid (∀ j, j < i → LitOk N W j) ∧ Below w2.heap.size w2 wr) (fun iv _ => N.n - (intOf iv).toNat)
        case atStart => exact ⟨0, Nat.zero_le _, rfl, hid (fun j hj => absurd hj (Nat.not_lt_zero _)), Below.refl _ _⟩
        case round =>
          obtain ⟨i, hi, rfl, HN, hbel⟩ := hrel
          have K3 := K2.below hbel
          have V3 := V2.below hbel
          have HB3 := hid (bthen HB2.out hbel (Nat.le_refl _))
          have Hbel := hid hbel
          clear hbel
          by_cases hlt : i < N.n
          · obtain ⟨ad, hA, hl, q0, q1, q2, hP, hP1, hP2⟩ := K3.a.b.at_ i hlt
            have B := HQ.out.bas hlt
            have ha := alo (W := wr) (o := (.cells #[.string (N.b i).nm, .slice (N.b i).A (N.b i).n (N.b i).c, .int .i64 (N.b i).rim] 53))
            obtain ⟨gb, hgb⟩ : ∃ gb, wr.heap.size = gb := ⟨_, rfl⟩
            have X4 := Bx.new (N.b i).nm (N.b i).c (N.b i).rim hP hgb
            have V4 := V3.below ha
            have Hba := hid (Hbel.out.trans (ha.mono Hbel.out.size))
            have HBa := hid (bthen HB3.out ha (Nat.le_refl _))
            obtain ⟨al, hAl, -, -⟩ := V3.a.x i (by have := Hln.out; omega)
            have D0 : Wbi _ (g + 1) gb B1 B0 W (N.b i) al i := (Wbi.mk V4 X4 hAl (by have := Hln.out; omega)).below dr0
            have dlt : decide ((i : Int) < (N.n : Int)) = true := decide_eq_true (by omega)
            clear ha hP hP1 hP2 X4 V4 V3 hAl
            go_upto_region 11 with (fail)
            generalize wr.alloc (.cells #[.string (N.b i).nm, .slice (N.b i).A (N.b i).n (N.b i).c, .int .i64 (N.b i).rim] 53) = wa at *
            have Hgb := hid hgb
            have HA := hid hA
            clear hgb q0 q1 q2 hA dlt
            have hil : (i : Int) < (W.n : Int) := by have := Hln.out; omega
            by_cases hok : inB (W.X i) 0 (wbelow (N.b i).F (N.b i).S (N.b i).n (N.b i).rim) = true
            · have HG := hid (show LitOk N W i from inB_iff.1 hok)
              have hok2 : (!inB (W.X i) 0 (wbelow (N.b i).F (N.b i).S (N.b i).n (N.b i).rim)) = false := by rw [hok]; rfl
              go_region_held3 (fun w' => w'.cell? ⟨g + 1, 0, none⟩ = some (.int .i64 W.min) ∧ w'.cell? ⟨g + 1, 1, none⟩ = some (.slice (some al) W.n W.c) ∧ w'.cell? ⟨g + 1, 2, none⟩ = some (.slice W.M W.m W.d) ∧ w'.cell? ⟨gb, 0, none⟩ = some (.string (N.b i).nm) ∧ w'.cell? ⟨gb, 1, none⟩ = some (.slice (N.b i).A (N.b i).n (N.b i).c) ∧ w'.cell? ⟨gb, 2, none⟩ = some (.int .i64 (N.b i).rim) ∧ w'.cell? (al.add i) = some (.int .i64 (W.X i))) (first | with_reducible exact Wbi.cells D0 | with_reducible exact Wbi.cells D1 | with_reducible exact Wbi.cells D2) (first
                | (go_at_call 58; with_reducible refine (capacity_any (N.b i).nm D0.b.a B).mono ?_; rintro e w4 ⟨rfl, hb4⟩; have D1 := D0.below hb4)
                | (go_at_call 49; with_reducible refine (Within_any _ _ _ _).mono ?_; rintro e w5 ⟨rfl, rfl⟩; have D2 := D1))
              have HB4 := hid (Hba.out.drew.trans (hb4.mono Hba.out.drew.size))
              have HBw4 := hid (bthen HBa.out.drew hb4 (Nat.le_refl _))
              clear hb4 D0 D1
              go_wp2
              go_roundw
              case rel => exact ⟨i + 1, by omega, by go_num, hid (fun j hj => by rcases Nat.lt_or_ge j i with h | h; exact HN.out j h; have : j = i := (by omega); subst this; exact HG.out), HB4.out⟩
              case measure => simp [intOf]; omega
            · have hok' := Bool.eq_false_iff.2 hok
              have hok2 : (!inB (W.X i) 0 (wbelow (N.b i).F (N.b i).S (N.b i).n (N.b i).rim)) = true := by rw [hok']; rfl
              have HE := hid (show We N W 2 from ⟨0, HQ.out, .inr ⟨rfl, .inr ⟨hm', .inr ⟨Hln.out, .inl ⟨fun hh => hok (inB_t (hh i hlt)), rfl⟩⟩⟩⟩⟩)
              clear hok
              go_region_held3 (fun w' => w'.cell? ⟨g + 1, 0, none⟩ = some (.int .i64 W.min) ∧ w'.cell? ⟨g + 1, 1, none⟩ = some (.slice (some al) W.n W.c) ∧ w'.cell? ⟨g + 1, 2, none⟩ = some (.slice W.M W.m W.d) ∧ w'.cell? ⟨gb, 0, none⟩ = some (.string (N.b i).nm) ∧ w'.cell? ⟨gb, 1, none⟩ = some (.slice (N.b i).A (N.b i).n (N.b i).c) ∧ w'.cell? ⟨gb, 2, none⟩ = some (.int .i64 (N.b i).rim) ∧ w'.cell? (al.add i) = some (.int .i64 (W.X i))) (first | with_reducible exact Wbi.cells D0 | with_reducible exact Wbi.cells D1 | with_reducible exact Wbi.cells D2) (first
                | (go_at_call 58; with_reducible refine (capacity_any (N.b i).nm D0.b.a B).mono ?_; rintro e w4 ⟨rfl, hb4⟩; have D1 := D0.below hb4)
                | (go_at_call 49; with_reducible refine (Within_any _ _ _ _).mono ?_; rintro e w5 ⟨rfl, rfl⟩; have D2 := D1))
              have HB4 := hid (Hba.out.drew.trans (hb4.mono Hba.out.drew.size))
              have HBw4 := hid (bthen HBa.out.drew hb4 (Nat.le_refl _))
              clear hb4 D0 D1
              go_wp2
              go_ret
              exact ⟨2, rfl, HE, HBw4.out⟩
          · have e : i = N.n := by omega
            have HE := hid (show We N W 0 from ⟨0, HQ.out, .inr ⟨rfl, .inr ⟨hm', .inr ⟨Hln.out, .inr ⟨by rw [← e]; exact HN.out, rfl⟩⟩⟩⟩⟩)
            have dlt : decide ((i : Int) < (N.n : Int)) = false := decide_eq_false (by omega)
            clear e
            go_wp2
            go_ret
            exact ⟨0, rfl, HE, HB3.out⟩
      · have HE := hid (show We N W 11 from ⟨0, HQ.out, .inr ⟨rfl, .inr ⟨hm', .inl ⟨hln, rfl⟩⟩⟩⟩)
        by_cases hl1 : W.n = N.n
        · have d1 : ((W.n : Int) != (N.n : Int)) = false := by rw [bne_eq_false_iff_eq]; omega
          have d2 : ((W.m : Int) != (N.k : Int)) = true := by rw [bne_iff_ne]; exact fun e => hln ⟨hl1, by omega⟩
          clear hln hl1
          go_wp2_with (((with_reducible refine (isMinute_any _ _).mono ?_); rintro e w' ⟨rfl, rfl⟩))
          go_ret
          exact ⟨11, rfl, HE, HB2.out⟩
        · have d1 : ((W.n : Int) != (N.n : Int)) = true := by rw [bne_iff_ne]; omega
          clear hln hl1
          go_wp2_with (((with_reducible refine (isMinute_any _ _).mono ?_); rintro e w' ⟨rfl, rfl⟩))
          go_ret
          exact ⟨11, rfl, HE, HB2.out⟩
    · have HE := hid (show We N W 2 from ⟨0, HQ.out, .inr ⟨rfl, .inl ⟨fun hx => hm (inB_t hx), rfl⟩⟩⟩)
      have hm0 := Bool.eq_false_iff.2 hm
      clear hm
      go_wp2_with (((with_reducible refine (isMinute_any _ _).mono ?_); rintro e w' ⟨rfl, rfl⟩))
      go_ret
      exact ⟨2, rfl, HE, HB2.out⟩
  · have hq1 : (q != 0) = true := by rw [bne_iff_ne]; exact h0
    have HE := hid (show We N W q from ⟨q, hq.out, .inl ⟨h0, rfl⟩⟩)
    clear h0
    go_wp2
    go_ret
    exact ⟨q, rfl, HE, HB2.out⟩

end Go.Proofs.Ytockfiobhmohnaa

namespace Go.Proofs.Ytockfiobhmohnaa
open Go.RowKit Go.Maps Kb Wb

theorem info_int : (Try.prog.info? 3).map (fun i => (i.zero, i.size, i.bytes)) = some (some (.int .i64 0), 1, 8) := by kernel_rfl
/-- Numbers as cells. -/
def ints (X : Nat → Int) (n : Nat) : List Value := (List.range n).map fun i => .int .i64 (X i)
theorem ints_snoc (X : Nat → Int) (n : Nat) : ints X n ++ [.int .i64 (X n)] = ints X (n + 1) := by
  unfold ints
  rw [List.range_succ, List.map_append]
  rfl
theorem ints_len (X : Nat → Int) (n : Nat) : (ints X n).length = n := by simp [ints]
theorem ints_get (X : Nat → Int) {n i : Nat} (h : i < n) : (ints X n)[i]? = some (.int .i64 (X i)) := by simp [ints, h]
theorem cell_one_new (w : World) (v : Value) (T : TypeId) : ∀ j u, [v][j]? = some u → (w.alloc (.cells #[v] T)).cell? ((⟨w.heap.size, 0, none⟩ : Addr).add j) = some u := fun j u hu => by
  have hh := fun i => cell_of_row _ _ i _ _ _ (Bk.of_alloc w (.cells #[v] T) rfl)
  match j, hu with
  | 0, hu => exact (hh 0).trans (by simpa using hu)
theorem own_below {w w' : World} {base : Nat} {e : TypeId} {size : Nat} {v : Value} {n : Nat} {xs : List Value} (h : w.ownsRow base e size v n xs) (hb : Below w.heap.size w w') : w'.ownsRow base e size v n xs :=
  h.kept (gb_of_below (r := none) hb) (by cases hv : v.ownBlock <;> simp)
theorem own_base {w : World} {base base' : Nat} {e : TypeId} {size : Nat} {v : Value} {n : Nat} {xs : List Value} (h : w.ownsRow base e size v n xs) (hb : base' ≤ base) : w.ownsRow base' e size v n xs :=
  ⟨h.1, h.2.imp id fun ⟨g, cap, cur, h1, h2, h3⟩ => ⟨g, cap, cur, h1, Nat.le_trans hb h2, h3⟩⟩
/-- The level of v litres in a basin. -/
noncomputable def lvB (b : Bd) (v : Int) : Int := @dite _ (∃ l, Lev b.F b.S b.n b.rim v l) (Classical.propDecidable _) (fun h => Classical.choose h) (fun _ => 0)
theorem lvB_lev {b : Bd} {v : Int} (B : Bas b.F b.S b.n b.rim) (h0 : 0 ≤ v) (h1 : v ≤ capB b) : Lev b.F b.S b.n b.rim v (lvB b v) := by
  have h : ∃ l, Lev b.F b.S b.n b.rim v l := Lev.exists B h0 h1
  unfold lvB
  rw [@dif_pos _ (Classical.propDecidable _) h]
  exact Classical.choose_spec h
theorem We.zero {N : Nd} {W : Wd} (h : We N W 0) : Cn N 0 ∧ (0 ≤ W.min ∧ W.min ≤ 1000000) ∧ (W.n = N.n ∧ W.m = N.k) ∧ ∀ i, i < N.n → LitOk N W i := by
  obtain ⟨q, hq, h⟩ := h
  rcases h with ⟨h0, h1⟩ | ⟨h0, ⟨_, h1⟩ | ⟨h1, ⟨_, h2⟩ | ⟨h2, ⟨_, h3⟩ | ⟨h3, _⟩⟩⟩⟩
  · exact absurd h1.symm h0
  · cases h1
  · cases h2
  · cases h3
  · subst h0; exact ⟨hq, h1, h2, h3⟩
theorem waterError_is {w : World} {B0 B1 : Nat} {N : Nd} {W : Wd} {q : Int} (hq : Hid (We N W q)) (h : Nt w B0 N) (hs : Nsm N) (hw : Wt w B1 W) :
    Calls Try.prog 53 #[.agg #[.slice N.A N.n N.c, .slice N.M N.m N.d, .slice N.K N.k N.e], .agg #[.int .i64 W.min, .slice W.A W.n W.c, .slice W.M W.m W.d]] w fun e w' => e = .returned (.int .i64 q) ∧ Below w.heap.size w w' :=
  (waterError_any h hs hw).mono fun _ _ ⟨r, he, hr, hb⟩ => ⟨by rw [he, hr.out.same hq.out], hb⟩

section
variable {w : World} {B0 B1 : Nat} {N : Nd} {W : Wd}
set_option maxRecDepth 100000 in
set_option maxHeartbeats 8000000 in
theorem Levels_err {q : Int} (hq : Hid (We N W q)) (h0 : q ≠ 0) (h : Nt w B0 N) (hs : Nsm N) (hw : Wt w B1 W) :
    Calls Try.prog 29 #[.agg #[.slice N.A N.n N.c, .slice N.M N.m N.d, .slice N.K N.k N.e], .agg #[.int .i64 W.min, .slice W.A W.n W.c, .slice W.M W.m W.d]] w fun e w' => e = .returned (.tuple #[.slice none 0 0, .int .i64 q]) ∧ Below w.heap.size w w' := by
  obtain ⟨g, hg⟩ : ∃ g, w.heap.size = g := ⟨_, rfl⟩
  have hb0 := ((Below.refl w.heap.size w).alloc (Nat.le_refl _) (.cells #[.slice N.A N.n N.c, .slice N.M N.m N.d, .slice N.K N.k N.e] 26)).alloc (by simp) (.cells #[.int .i64 W.min, .slice W.A W.n W.c, .slice W.M W.m W.d] 30)
  have K1 := (Nb.new h hg).below (alo (o := .cells #[.int .i64 W.min, .slice W.A W.n W.c, .slice W.M W.m W.d] 30))
  have V1 : Wx _ (g + 1) B1 W := ⟨Bk.of_alloc (w.alloc (.cells #[.slice N.A N.n N.c, .slice N.M N.m N.d, .slice N.K N.k N.e] 26)) (.cells #[.int .i64 W.min, .slice W.A W.n W.c, .slice W.M W.m W.d] 30) (by simp [hg]), hw.below (hb0.mono (Nat.le_refl _))⟩
  have hq1 : (q != 0) = true := by rw [bne_iff_ne]; exact h0
  go_enter Try.func29, Try.ntmps29
  go_wp2_with fail
  generalize (w.alloc (.cells #[.slice N.A N.n N.c, .slice N.M N.m N.d, .slice N.K N.k N.e] 26)).alloc (.cells #[.int .i64 W.min, .slice W.A W.n W.c, .slice W.M W.m W.d] 30) = W0 at *
  have HB0 := hid hb0
  have Hh := hid h
  have Hg := hid hg
  have Hw := hid hw
  clear hb0 h hg hw h0
  refine (waterError_is hq K1.a hs V1.a).mono ?_
  rintro e w2 ⟨rfl, hb⟩
  have HB2 := hid (bthen HB0.out hb (Nat.le_refl _))
  clear hb K1 V1
  go_wp2
  go_ret2
  exact ⟨rfl, HB2.out⟩

set_option maxRecDepth 100000 in
set_option maxHeartbeats 8000000 in
theorem Levels_ok (hq : Hid (We N W 0)) (h : Nt w B0 N) (hs : Nsm N) (hw : Wt w B1 W) :
    Calls Try.prog 29 #[.agg #[.slice N.A N.n N.c, .slice N.M N.m N.d, .slice N.K N.k N.e], .agg #[.int .i64 W.min, .slice W.A W.n W.c, .slice W.M W.m W.d]] w fun e w' => ∃ v : Value, e = .returned (.tuple #[v, .int .i64 0]) ∧ Hid (w'.ownsRow w.heap.size 3 1 v N.n (ints (fun i => lvB (N.b i) (W.X i)) N.n)) ∧ Below w.heap.size w w' := by
  obtain ⟨hcn, hmin, hln, hlit⟩ := hq.out.zero
  have hfew := hcn.few
  have HCN := hid hcn
  have HLN := hid hln
  have HLIT := hid hlit
  have hn9 : W.n ≤ 9223372036854775807 := by omega
  clear hmin hln hlit hcn
  obtain ⟨i0, hi0, hz0, hz1, hz2⟩ := info_parts info_int
  obtain ⟨g, hg⟩ : ∃ g, w.heap.size = g := ⟨_, rfl⟩
  have hb0 := ((Below.refl w.heap.size w).alloc (Nat.le_refl _) (.cells #[.slice N.A N.n N.c, .slice N.M N.m N.d, .slice N.K N.k N.e] 26)).alloc (by simp) (.cells #[.int .i64 W.min, .slice W.A W.n W.c, .slice W.M W.m W.d] 30)
  have K1 := (Nb.new h hg).below (alo (o := .cells #[.int .i64 W.min, .slice W.A W.n W.c, .slice W.M W.m W.d] 30))
  have V1 : Wx _ (g + 1) B1 W := ⟨Bk.of_alloc (w.alloc (.cells #[.slice N.A N.n N.c, .slice N.M N.m N.d, .slice N.K N.k N.e] 26)) (.cells #[.int .i64 W.min, .slice W.A W.n W.c, .slice W.M W.m W.d] 30) (by simp [hg]), hw.below (hb0.mono (Nat.le_refl _))⟩
  go_enter Try.func29, Try.ntmps29
  go_wp2_with fail
  generalize (w.alloc (.cells #[.slice N.A N.n N.c, .slice N.M N.m N.d, .slice N.K N.k N.e] 26)).alloc (.cells #[.int .i64 W.min, .slice W.A W.n W.c, .slice W.M W.m W.d] 30) = W0 at *
  have HB0 := hid hb0
  have Hh := hid h
  have Hg := hid hg
  have Hw := hid hw
  clear hb0 h hg hw
  refine (waterError_is hq K1.a hs V1.a).mono ?_
  rintro e w2 ⟨rfl, hb⟩
  have K2 := K1.below hb
  have V2 := V1.below hb
  have HB2 := hid (bthen HB0.out hb (Nat.le_refl _))
  clear hb K1 V1
  obtain ⟨x0, x1, x2⟩ := K2.cells
  obtain ⟨y0, y1, y2⟩ := V2.cells
  go_wp2_with fail
  clear x0 x1 x2 y0 y1 y2
  have hown0 := hid (World.ownsRow_nil w2 w2.heap.size 3 1)
  go_loopw [7, 19] (fun sv iv wr => ∃ (i : Nat), i ≤ N.n ∧ iv = .int .i64 i ∧ Hid (wr.ownsRow w2.heap.size 3 1 sv i (ints (fun i => lvB (N.b i) (W.X i)) i)) ∧ Below w2.heap.size w2 wr) (fun _ iv _ => N.n - (intOf iv).toNat)
  case atStart => exact ⟨0, Nat.zero_le _, rfl, hown0, Below.refl _ _⟩
  case round =>
    obtain ⟨i, hi, rfl, HO, hbel⟩ := hrel
    have K3 := K2.below hbel
    have V3 := V2.below hbel
    have Hbel := hid hbel
    clear hbel
    by_cases hlt : i < N.n
    · obtain ⟨ad, hA, hl, q0, q1, q2, hP, hP1, hP2⟩ := K3.a.b.at_ i hlt
      have B := HCN.out.bas hlt
      have ha := alo (W := wr) (o := (.cells #[.string (N.b i).nm, .slice (N.b i).A (N.b i).n (N.b i).c, .int .i64 (N.b i).rim] 53))
      obtain ⟨gb, hgb⟩ : ∃ gb, wr.heap.size = gb := ⟨_, rfl⟩
      have X4 := Bx.new (N.b i).nm (N.b i).c (N.b i).rim hP hgb
      have V4 := V3.below ha
      have Own1 := hid (HO.out.alloc (.cells #[.string (N.b i).nm, .slice (N.b i).A (N.b i).n (N.b i).c, .int .i64 (N.b i).rim] 53))
      have Hba := hid (Hbel.out.trans (ha.mono Hbel.out.size))
      have iW : i < W.n := by have := HLN.out; omega
      obtain ⟨al, hAl, -, -⟩ := V3.a.x i iW
      have D0 : Wbi _ (g + 1) gb B1 B0 W (N.b i) al i := (Wbi.mk V4 X4 hAl iW).below dr0
      have dlt : decide ((i : Int) < (N.n : Int)) = true := decide_eq_true (by omega)
      have Hcap := hid hP1
      have Hcm := hid hP2
      have Hlit := hid (HLIT.out i hlt)
      have Hlev := hid (lvB_lev B Hlit.out.1 Hlit.out.2)
      obtain ⟨lv, hlv⟩ : ∃ lv, lvB (N.b i) (W.X i) = lv := ⟨_, rfl⟩
      rw [hlv] at Hlev
      have Hlv := hid hlv
      clear ha hP hP1 hP2 X4 V4 V3 hAl hlv
      go_upto_region 8 with (fail)
      generalize wr.alloc (.cells #[.string (N.b i).nm, .slice (N.b i).A (N.b i).n (N.b i).c, .int .i64 (N.b i).rim] 53) = wa at *
      have Hgb := hid hgb
      have HA := hid hA
      clear hgb q0 q1 q2 hA dlt
      have hil : (i : Int) < (W.n : Int) := by omega
      obtain ⟨z0, z1, z2, z3, z4, z5, z6⟩ := D0.cells
      go_region_law (first
        | (refine step_append_lies _ (by rfl) _ _ _ (by rfl) w2.heap.size 3 i0 (.int .i64 0) 1 8 Try.underlying27 hi0 hz0 hz1 hz2 rfl (by decide) u7 i _ (by rfl) (Own4.out.alloc _) ⟨w4.heap.size, 0, none⟩ 1 1 [.int .i64 lv] (by rfl) rfl (cell_one_new _ _ _) (one_cell (.int .i64 lv) rfl) (by decide) (by unfold maxLen; omega) (by omega) (by have := HB4.out.size; simp; omega) _ rfl ?_; intro g1 cap1 w5 hown5 hgrow5 hat5 hlt5)
        | (go_simp; go_at_call 54; refine (levelOf_any (N.b i).nm D0.b.a B Hcap.out Hcm.out Hlit.out.1 Hlit.out.2 Hlev.out).mono ?_; rintro e w4 ⟨rfl, hb4⟩; have HB4 := hid (Hba.out.drew.trans (hb4.mono Hba.out.drew.size)); have Own4 := hid (own_below Own1.out.drew hb4)))
      all_goals
        have hb5 := (HB4.out.alloc HB4.out.size (.cells #[.int .i64 lv] 3)).grown hgrow5 (by have := HB4.out.size; simp; omega) (fun k hk => (Own4.out.lt k hk).1)
        rw [← Hlv.out, ints_snoc (fun i => lvB (N.b i) (W.X i)) i] at hown5
        have HO5 := hid hown5
        have HB5 := hid hb5
        clear hb5 hown5 hgrow5 hat5 hlt5 hb4 D0 z0 z1 z2 z3 z4 z5 z6
        go_wp2
        go_roundw
        case rel => exact ⟨i + 1, by omega, by go_num, HO5, HB5.out⟩
        case measure => simp [intOf]; omega
    · have e : i = N.n := by omega
      have dlt : decide ((i : Int) < (N.n : Int)) = false := decide_eq_false (by omega)
      subst e
      have HB := hid (bthen HB2.out Hbel.out (Nat.le_refl _))
      have HO2 := hid (own_base HO.out HB2.out.size)
      go_wp2
      go_ret2
      exact ⟨_, rfl, HO2, HB.out⟩
end

end Go.Proofs.Ytockfiobhmohnaa

