/- Networks: CheckNetwork of the reference. For all networks whose lists are not endless. -/
import Derived.Test.YtndcopljjnbkbaaNt5
namespace Go.Proofs.Ytndcopljjnbkbaa
open Go.RowKit Go.Maps Kb Wb

theorem Cn.of_b {N : Nd} {q : Int} (h : Bq N q) (h0 : q ≠ 0) : Cn N q := by
  obtain ⟨b, hb⟩ := Cs.exists N.m N.F N.L
  obtain ⟨c, hc⟩ := Lsg.exists 12 N.k (fun i => (N.l i).nm) (fun i r => r = lkE N (N.l i)) (fun i => ⟨_, rfl⟩)
  exact ⟨q, b, c, h, hb, hc, (if_pos h0).symm⟩
theorem Cn.of_s {N : Nd} {q : Int} (h : Bq N 0) (k : Cs N.m N.F N.L q) (h0 : q ≠ 0) : Cn N q := by
  obtain ⟨c, hc⟩ := Lsg.exists 12 N.k (fun i => (N.l i).nm) (fun i r => r = lkE N (N.l i)) (fun i => ⟨_, rfl⟩)
  exact ⟨0, q, c, h, k, hc, by unfold cnE; rw [if_neg (by decide), if_pos h0]⟩
theorem Cn.of_k {N : Nd} {q : Int} (h : Bq N 0) (k : Cs N.m N.F N.L 0) (l : Kq N q) : Cn N q :=
  ⟨0, 0, q, h, k, l, by unfold cnE; rw [if_neg (by decide), if_neg (by decide)]⟩
theorem Ixn.exists (n : Nat) (nm : Nat → ByteArray) (s : ByteArray) : ∃ r, Ixn n nm s r := by
  rcases first_bad (fun j => nm j ≠ s) n with h | ⟨i, h1, h2, h3⟩
  · exact ⟨-1, .inl ⟨rfl, h⟩⟩
  · exact ⟨i, .inr ⟨i, h1, h2, Classical.byContradiction h3, rfl⟩⟩
/-- The first item with the name of item i. -/
theorem ix_own {n : Nat} {nm : Nat → ByteArray} {i : Nat} {r : Int} (hi : i < n) (h : Ixn n nm (nm i) r) : (r = (i : Int) ↔ ∀ k, k < i → nm k ≠ nm i) ∧ 0 ≤ r ∧ r ≤ i := by
  rcases h with ⟨rfl, h⟩ | ⟨j, hj, h1, h2, rfl⟩
  · exact absurd rfl (h i hi)
  · have hji : j ≤ i := Nat.le_of_not_lt fun e => h1 i e rfl
    refine ⟨⟨fun e k hk => h1 k (by omega), fun h => ?_⟩, by omega, by omega⟩
    rcases Nat.lt_or_ge j i with e | e
    · exact absurd h2 (h j e)
    · omega
section
variable {w : World} {B0 : Nat} {N : Nd}
theorem rBasin_is {s : ByteArray} {q : Int} (hq : Hid (Ixn N.n N.bnm s q)) (h : Nt w B0 N) (hs : Nsm N) :
    Calls Try.prog 40 #[.agg #[.slice N.A N.n N.c, .slice N.M N.m N.d, .slice N.K N.k N.e], .string s] w fun e w' => e = .returned (.int .i64 q) ∧ Below w.heap.size w w' :=
  (rBasin_any s h hs.n).mono fun _ _ ⟨r, he, hr, hb⟩ => ⟨by rw [he, hr.out.same hq.out], hb⟩
theorem rLink_is {s : ByteArray} {q : Int} (hq : Hid (Ixn N.k N.lnm s q)) (h : Nt w B0 N) (hs : Nsm N) :
    Calls Try.prog 21 #[.agg #[.slice N.A N.n N.c, .slice N.M N.m N.d, .slice N.K N.k N.e], .string s] w fun e w' => e = .returned (.int .i64 q) ∧ Below w.heap.size w w' :=
  (rLink_any s h hs.k).mono fun _ _ ⟨r, he, hr, hb⟩ => ⟨by rw [he, hr.out.same hq.out], hb⟩
theorem findBasin_is {s : ByteArray} {q : Int} (hq : Hid (Ixn N.n N.bnm s q)) (h : Nt w B0 N) (hs : Nsm N) :
    Calls Try.prog 70 #[.agg #[.slice N.A N.n N.c, .slice N.M N.m N.d, .slice N.K N.k N.e], .string s] w fun e w' => e = .returned (.int .i64 q) ∧ Below w.heap.size w w' :=
  (findBasin_any s h hs.n).mono fun _ _ ⟨r, he, hr, hb⟩ => ⟨by rw [he, hr.out.same hq.out], hb⟩
theorem findLink_is {s : ByteArray} {q : Int} (hq : Hid (Ixn N.k N.lnm s q)) (h : Nt w B0 N) (hs : Nsm N) :
    Calls Try.prog 56 #[.agg #[.slice N.A N.n N.c, .slice N.M N.m N.d, .slice N.K N.k N.e], .string s] w fun e w' => e = .returned (.int .i64 q) ∧ Below w.heap.size w w' :=
  (findLink_any s h hs.k).mono fun _ _ ⟨r, he, hr, hb⟩ => ⟨by rw [he, hr.out.same hq.out], hb⟩
theorem rBasin_isA {s : ByteArray} {q : Int} {A' : Option Addr} (hA : N.A = A') (hq : Hid (Ixn N.n N.bnm s q)) (h : Nt w B0 N) (hs : Nsm N) :
    Calls Try.prog 40 #[.agg #[.slice A' N.n N.c, .slice N.M N.m N.d, .slice N.K N.k N.e], .string s] w fun e w' => e = .returned (.int .i64 q) ∧ Below w.heap.size w w' := by
  subst hA; exact rBasin_is hq h hs
theorem rLink_isA {s : ByteArray} {q : Int} {K' : Option Addr} (hA : N.K = K') (hq : Hid (Ixn N.k N.lnm s q)) (h : Nt w B0 N) (hs : Nsm N) :
    Calls Try.prog 21 #[.agg #[.slice N.A N.n N.c, .slice N.M N.m N.d, .slice K' N.k N.e], .string s] w fun e w' => e = .returned (.int .i64 q) ∧ Below w.heap.size w w' := by
  subst hA; exact rLink_is hq h hs
end
/-- A network in a box, and what stands at its basin i. -/
structure Nbi (w : World) (g B0 : Nat) (N : Nd) (ad : Addr) (i : Nat) : Prop where
  n : Nb w g B0 N
  c : w.cell? (ad.add (i * 3)) = some (.string (N.b i).nm)
  l : ad.block < B0
theorem Nbi.below {w w' : World} {g B0 : Nat} {N : Nd} {ad : Addr} {i : Nat} (h : Nbi w g B0 N ad i) (hb : Below w.heap.size w w') : Nbi w' g B0 N ad i :=
  ⟨h.n.below hb, (hb.cell (p := ad.add (i * 3)) (in_add (Nat.lt_of_lt_of_le h.l h.n.a.b.le))).trans h.c, h.l⟩
theorem Nbi.cells {w' : World} {g B0 : Nat} {N : Nd} {ad : Addr} {i : Nat} (h : Nbi w' g B0 N ad i) : w'.cell? ⟨g, 0, none⟩ = some (.slice N.A N.n N.c) ∧ w'.cell? ⟨g, 1, none⟩ = some (.slice N.M N.m N.d) ∧ w'.cell? ⟨g, 2, none⟩ = some (.slice N.K N.k N.e) ∧ w'.cell? (ad.add (i * 3)) = some (.string (N.b i).nm) := by
  obtain ⟨a, b, c⟩ := h.n.cells
  exact ⟨a, b, c, h.c⟩
theorem Nbi.cells0 {w' : World} {g B0 : Nat} {N : Nd} {ad : Addr} {i : Nat} (hA : N.A = some ad) (h : Nbi w' g B0 N ad i) : w'.cell? ⟨g, 0, none⟩ = some (.slice (some ad) N.n N.c) ∧ w'.cell? ⟨g, 1, none⟩ = some (.slice N.M N.m N.d) ∧ w'.cell? ⟨g, 2, none⟩ = some (.slice N.K N.k N.e) ∧ w'.cell? (ad.add (i * 3)) = some (.string (N.b i).nm) := by
  rw [← hA]; exact h.cells
/-- A network in a box, and what stands at its link i. -/
structure Nli (w : World) (g B0 : Nat) (N : Nd) (ad : Addr) (i : Nat) : Prop where
  n : Nb w g B0 N
  A : N.K = some ad
  i : i < N.k
theorem Nli.below {w w' : World} {g B0 : Nat} {N : Nd} {ad : Addr} {i : Nat} (h : Nli w g B0 N ad i) (hb : Below w.heap.size w w') : Nli w' g B0 N ad i := ⟨h.n.below hb, h.A, h.i⟩
theorem Nli.cells {w' : World} {g B0 : Nat} {N : Nd} {ad : Addr} {i : Nat} (h : Nli w' g B0 N ad i) : w'.cell? ⟨g, 0, none⟩ = some (.slice N.A N.n N.c) ∧ w'.cell? ⟨g, 1, none⟩ = some (.slice N.M N.m N.d) ∧ w'.cell? ⟨g, 2, none⟩ = some (.slice (some ad) N.k N.e) ∧ w'.cell? (ad.add (i * 8)) = some (.string (N.l i).nm) ∧ w'.cell? ⟨(ad.add (i * 8)).block, (ad.add (i * 8)).off + 1, none⟩ = some (.int .i64 (N.l i).kind) ∧ w'.cell? ⟨(ad.add (i * 8)).block, (ad.add (i * 8)).off + 2, none⟩ = some (.string (N.l i).fr) ∧ w'.cell? ⟨(ad.add (i * 8)).block, (ad.add (i * 8)).off + 3, none⟩ = some (.string (N.l i).tw) ∧ w'.cell? ⟨(ad.add (i * 8)).block, (ad.add (i * 8)).off + 4, none⟩ = some (.int .i64 (N.l i).sill) ∧ w'.cell? ⟨(ad.add (i * 8)).block, (ad.add (i * 8)).off + 5, none⟩ = some (.int .i64 (N.l i).rate) ∧ w'.cell? ⟨(ad.add (i * 8)).block, (ad.add (i * 8)).off + 6, none⟩ = some (.int .i64 (N.l i).fac) ∧ w'.cell? ⟨(ad.add (i * 8)).block, (ad.add (i * 8)).off + 7, none⟩ = some (.int .i64 (N.l i).lift) := by
  obtain ⟨a, b, c⟩ := h.n.cells
  obtain ⟨ad', hA, hl, q0, q1, q2, q3, q4, q5, q6, q7⟩ := h.n.a.l.at_ i h.i
  rw [h.A] at hA c
  injection hA with hA
  subst hA
  exact ⟨a, b, c, q0, q1, q2, q3, q4, q5, q6, q7⟩

set_option maxRecDepth 100000 in
set_option maxHeartbeats 16000000 in
theorem rCheckNetwork_any {w : World} {B0 : Nat} {N : Nd} (h : Nt w B0 N) (hs : Nsm N) :
    Calls Try.prog 10 #[.agg #[.slice N.A N.n N.c, .slice N.M N.m N.d, .slice N.K N.k N.e]] w fun e w' => ∃ q : Int, e = .returned (.int .i64 q) ∧ Hid (Cn N q) ∧ Below w.heap.size w w' := by
  have hnn := hs.n
  have hkk := hs.k
  have HM := hid (Nat.le_trans h.md h.dm)
  have hm9 : N.m ≤ 9223372036854775807 := by have := HM.out; unfold maxLen at this; omega
  obtain ⟨g, hg⟩ : ∃ g, w.heap.size = g := ⟨_, rfl⟩
  have hb0 := alo (W := w) (o := .cells #[.slice N.A N.n N.c, .slice N.M N.m N.d, .slice N.K N.k N.e] 26)
  have K1 := Nb.new h hg
  by_cases h8 : 8 < N.n
  · have hd : decide ((8 : Int) < (N.n : Int)) = true := decide_eq_true (by omega)
    have HE := hid (Cn.of_b (N := N) (q := 8) (.inl ⟨h8, rfl⟩) (by decide))
    go_enter Try.func10, Try.ntmps10
    go_wp2
    go_ret
    exact ⟨8, rfl, HE, hb0⟩
  · have hd : decide ((8 : Int) < (N.n : Int)) = false := decide_eq_false (by omega)
    go_enter Try.func10, Try.ntmps10
    go_wp2_with fail
    clear hd
    generalize w.alloc (.cells #[.slice N.A N.n N.c, .slice N.M N.m N.d, .slice N.K N.k N.e] 26) = W0 at *
    have HB0 := hid hb0
    have Hh := hid h
    have Hg := hid hg
    clear hb0 h hg
    go_loopw [3, 4] (fun iv _ wr => ∃ (i : Nat), i ≤ N.n ∧ iv = .int .i64 i ∧ Hid (∀ j, j < i → LGood (fun i => (N.b i).nm) (fun i r => Sz (N.b i).n (N.b i).F (N.b i).S (N.b i).rim r) j) ∧ Below W0.heap.size W0 wr) (fun iv _ _ => N.n - (intOf iv).toNat)
    case atStart => exact ⟨0, Nat.zero_le _, rfl, hid (fun j hj => absurd hj (Nat.not_lt_zero _)), Below.refl _ _⟩
    case round =>
      obtain ⟨i, hi, rfl, HN, hbel⟩ := hrel
      have K2 := K1.below hbel
      have HB := hid (bthen HB0.out hbel (Nat.le_refl _))
      have Hbel := hid hbel
      clear hbel
      obtain ⟨x0, x1, x2⟩ := K2.cells
      by_cases hlt : i < N.n
      · obtain ⟨ad, hA, hl, q0, q1, q2, hP, hP1, hP2⟩ := K2.a.b.at_ i hlt
        have HA := hid hA
        rw [hA] at x0
        have HP := hid hP
        have HP1 := hid (Nat.le_trans hP1 hP2)
        clear hA hP hP1 hP2
        have hsz : (N.b i).nm.size ≤ 1000000000 := Nat.le_trans (hs.b i hlt) (by decide)
        have wbad := fun (r : Int) (h0 : r ≠ 0) (hx : LBad (fun i => (N.b i).nm) (fun i r => Sz (N.b i).n (N.b i).F (N.b i).S (N.b i).rim r) i r) => hid (Cn.of_b (N := N) (q := r) (.inr ⟨by omega, .inl ⟨i, hlt, HN.out, hx⟩⟩) h0)
        have Wbad := hid wbad
        clear wbad
        have hd1 : decide ((i : Int) < (N.n : Int)) = true := decide_eq_true (by omega)
        by_cases hnm : nameB (N.b i).nm = true
        · have HNM := hid hnm
          obtain ⟨r, hr⟩ := Ixn.exists N.n N.bnm (N.b i).nm
          obtain ⟨hr1, hr2, hr3⟩ := ix_own (nm := N.bnm) hlt hr
          have HR := hid hr
          have HR1 := hid hr1
          clear hr hr1
          have D0 : Nbi wr.drew g B0 N ad i := (Nbi.mk K2 q0 hl).below dr0
          by_cases hri : r = (i : Int)
          · have dri : (r != (i : Int)) = false := by rw [bne_eq_false_iff_eq]; exact hri
            have Hno := hid (HR1.out.1 hri)
            clear hri
            go_wp2_with (((with_reducible refine (rIsName_any _ _ hsz).mono ?_); rintro e w' ⟨rfl, rfl⟩))
            go_region_held3 (fun w' => w'.cell? ⟨g, 0, none⟩ = some (.slice (some ad) N.n N.c) ∧ w'.cell? ⟨g, 1, none⟩ = some (.slice N.M N.m N.d) ∧ w'.cell? ⟨g, 2, none⟩ = some (.slice N.K N.k N.e) ∧ w'.cell? (ad.add (i * 3)) = some (.string (N.b i).nm)) (first | with_reducible exact Nbi.cells0 HA.out D0 | with_reducible exact Nbi.cells0 HA.out D1) (first
              | (go_at_call 40; with_reducible refine (rBasin_isA HA.out HR D0.n.a hs).mono ?_; rintro e w3 ⟨rfl, hb3⟩; have D1 := D0.below hb3))
            have HB3 := hid (Hbel.out.drew.trans (hb3.mono Hbel.out.drew.size))
            have HBw3 := hid (bthen HB.out.drew hb3 (Nat.le_refl _))
            have K3 := D1.n
            clear hb3 D0 D1 x0 x1 x2 q0 q1 q2
            obtain ⟨x0, x1, x2⟩ := K3.cells
            obtain ⟨ad', hA', hl', q0, q1, q2, hP, hP1, hP2⟩ := K3.a.b.at_ i hlt
            rw [HA.out] at hA' x0
            injection hA' with hA'
            subst hA'
            have HP3 := hid hP
            clear hP hP1 hP2
            go_wp2_with fail
            refine (rCheckBasin_any HP3.out HP1.out hsz).mono ?_
            rintro e w4 ⟨r4, rfl, hr4, hb4⟩
            have HZ : Hid (Sz (N.b i).n (N.b i).F (N.b i).S (N.b i).rim r4) := hid (by
              rcases hr4.out with ⟨h1, _⟩ | ⟨_, h2⟩
              · rw [HNM.out] at h1; cases h1
              · exact h2)
            have HB4 := hid (HB3.out.trans (hb4.mono HB3.out.size))
            have HBw4 := hid (bthen HBw3.out hb4 (Nat.le_refl _))
            clear hb4 hr4 x0 x1 x2 q0 q1 q2 hnm
            by_cases h0 : r4 = 0
            · subst h0
              have HG := hid (show LGood (fun i => (N.b i).nm) (fun i r => Sz (N.b i).n (N.b i).F (N.b i).S (N.b i).rim r) i from ⟨HNM.out, Hno.out, HZ.out⟩)
              go_wp2
              go_roundw
              case rel => exact ⟨i + 1, by omega, by go_num, hid (fun j hj => by rcases Nat.lt_or_ge j i with h | h; exact HN.out j h; have : j = i := (by omega); subst this; exact HG.out), HB4.out⟩
              case measure => simp [intOf]; omega
            · have hq1 : (r4 != 0) = true := by rw [bne_iff_ne]; exact h0
              have HE := Wbad.out r4 h0 (.inr (.inr ⟨HNM.out, Hno.out, HZ.out, h0⟩))
              clear h0
              go_wp2
              go_ret
              exact ⟨r4, rfl, HE, HBw4.out⟩
          · have dri : (r != (i : Int)) = true := by rw [bne_iff_ne]; exact hri
            have hex : ∃ k, k < i ∧ (N.b k).nm = (N.b i).nm := Classical.byContradiction fun e => hri (HR1.out.2 fun k hk e' => e ⟨k, hk, e'⟩)
            have HE := Wbad.out 5 (by decide) (.inr (.inl ⟨hnm, hex, rfl⟩))
            clear hri hex
            go_wp2_with (((with_reducible refine (rIsName_any _ _ hsz).mono ?_); rintro e w' ⟨rfl, rfl⟩))
            go_region_held3 (fun w' => w'.cell? ⟨g, 0, none⟩ = some (.slice (some ad) N.n N.c) ∧ w'.cell? ⟨g, 1, none⟩ = some (.slice N.M N.m N.d) ∧ w'.cell? ⟨g, 2, none⟩ = some (.slice N.K N.k N.e) ∧ w'.cell? (ad.add (i * 3)) = some (.string (N.b i).nm)) (first | with_reducible exact Nbi.cells0 HA.out D0 | with_reducible exact Nbi.cells0 HA.out D1) (first
              | (go_at_call 40; with_reducible refine (rBasin_isA HA.out HR D0.n.a hs).mono ?_; rintro e w3 ⟨rfl, hb3⟩; have D1 := D0.below hb3))
            have HBw3 := hid (bthen HB.out.drew hb3 (Nat.le_refl _))
            clear hb3 D0 D1 x0 x1 x2 q0 q1 q2
            go_wp2
            go_ret
            exact ⟨5, rfl, HE, HBw3.out⟩
        · have hnm' := Bool.eq_false_iff.2 hnm
          have HE := Wbad.out 4 (by decide) (.inl ⟨hnm', rfl⟩)
          clear hnm
          go_wp2_with (((with_reducible refine (rIsName_any _ _ hsz).mono ?_); rintro e w' ⟨rfl, rfl⟩))
          go_ret
          exact ⟨4, rfl, HE, HB.out⟩
      · have e : i = N.n := by omega
        have HBq := hid (show Bq N 0 from .inr ⟨by omega, .inr ⟨by rw [← e]; exact HN.out, rfl⟩⟩)
        have hd1 : decide ((i : Int) < (N.n : Int)) = false := decide_eq_false (by omega)
        clear e
        obtain ⟨W1, hW1⟩ : ∃ W1, W1 = wr := ⟨_, rfl⟩
        subst hW1
        go_wp2_with fail
        refine (rCheckSea_any K2.a.s HM.out).mono ?_
        rintro e w3 ⟨q, rfl, hq, hb3⟩
        have K3 := K2.below hb3
        have HB3 := hid (bthen HB.out hb3 (Nat.le_refl _))
        clear hb3 x0 x1 x2 hd1
        obtain ⟨x0, x1, x2⟩ := K3.cells
        by_cases h0 : q = 0
        · subst h0
          by_cases h12 : 12 < N.k
          · have hd2 : decide ((12 : Int) < (N.k : Int)) = true := decide_eq_true (by omega)
            have HE := hid (Cn.of_k (N := N) (q := 8) HBq.out hq.out (.inl ⟨h12, rfl⟩))
            go_wp2
            go_ret
            exact ⟨8, rfl, HE, HB3.out⟩
          · have hd2 : decide ((12 : Int) < (N.k : Int)) = false := decide_eq_false (by omega)
            go_wp2_with fail
            clear hd2 x0 x1 x2
            go_loopw [6, 7] (fun iv _ wr => ∃ (j : Nat), j ≤ N.k ∧ iv = .int .i64 j ∧ Hid (∀ k, k < j → LGood (fun i => (N.l i).nm) (fun i r => r = lkE N (N.l i)) k) ∧ Below w3.heap.size w3 wr) (fun iv _ _ => N.k - (intOf iv).toNat)
            case atStart => exact ⟨0, Nat.zero_le _, rfl, hid (fun j hj => absurd hj (Nat.not_lt_zero _)), Below.refl _ _⟩
            case round =>
              obtain ⟨j, hj, rfl, HL, hbel2⟩ := hrel
              have K4 := K3.below hbel2
              have HB4 := hid (bthen HB3.out hbel2 (Nat.le_refl _))
              have Hbel2 := hid hbel2
              clear hbel2
              obtain ⟨x0, x1, x2⟩ := K4.cells
              by_cases hjlt : j < N.k
              · obtain ⟨ad, hA, hl, q0, q1, q2, q3, q4, q5, q6, q7⟩ := K4.a.l.at_ j hjlt
                have HA := hid hA
                rw [hA] at x2
                clear hA
                have hsz : (N.l j).nm.size ≤ 1000000000 := Nat.le_trans (hs.l j hjlt) (by decide)
                have wbad := fun (r : Int) (hx : LBad (fun i => (N.l i).nm) (fun i r => r = lkE N (N.l i)) j r) => hid (Cn.of_k (N := N) (q := r) HBq.out hq.out (.inr ⟨by omega, .inl ⟨j, hjlt, HL.out, hx⟩⟩))
                have Wbad := hid wbad
                clear wbad
                have hd1 : decide ((j : Int) < (N.k : Int)) = true := decide_eq_true (by omega)
                by_cases hnm : nameB (N.l j).nm = true
                · have HNM := hid hnm
                  obtain ⟨r, hr⟩ := Ixn.exists N.k N.lnm (N.l j).nm
                  obtain ⟨hr1, hr2, hr3⟩ := ix_own (nm := N.lnm) hjlt hr
                  have HR := hid hr
                  have HR1 := hid hr1
                  clear hr hr1
                  have D0 : Nli wr.drew g B0 N ad j := (Nli.mk K4 HA.out hjlt).below dr0
                  by_cases hri : r = (j : Int)
                  · have dri : (r != (j : Int)) = false := by rw [bne_eq_false_iff_eq]; exact hri
                    have Hno := hid (HR1.out.1 hri)
                    clear hri
                    go_wp2_with (((with_reducible refine (rIsName_any _ _ hsz).mono ?_); rintro e w' ⟨rfl, rfl⟩))
                    go_region_held3 (fun w' => w'.cell? ⟨g, 0, none⟩ = some (.slice N.A N.n N.c) ∧ w'.cell? ⟨g, 1, none⟩ = some (.slice N.M N.m N.d) ∧ w'.cell? ⟨g, 2, none⟩ = some (.slice (some ad) N.k N.e) ∧ w'.cell? (ad.add (j * 8)) = some (.string (N.l j).nm) ∧ w'.cell? ⟨(ad.add (j * 8)).block, (ad.add (j * 8)).off + 1, none⟩ = some (.int .i64 (N.l j).kind) ∧ w'.cell? ⟨(ad.add (j * 8)).block, (ad.add (j * 8)).off + 2, none⟩ = some (.string (N.l j).fr) ∧ w'.cell? ⟨(ad.add (j * 8)).block, (ad.add (j * 8)).off + 3, none⟩ = some (.string (N.l j).tw) ∧ w'.cell? ⟨(ad.add (j * 8)).block, (ad.add (j * 8)).off + 4, none⟩ = some (.int .i64 (N.l j).sill) ∧ w'.cell? ⟨(ad.add (j * 8)).block, (ad.add (j * 8)).off + 5, none⟩ = some (.int .i64 (N.l j).rate) ∧ w'.cell? ⟨(ad.add (j * 8)).block, (ad.add (j * 8)).off + 6, none⟩ = some (.int .i64 (N.l j).fac) ∧ w'.cell? ⟨(ad.add (j * 8)).block, (ad.add (j * 8)).off + 7, none⟩ = some (.int .i64 (N.l j).lift)) (first | with_reducible exact Nli.cells D0 | with_reducible exact Nli.cells D1) (first
                      | (go_at_call 21; with_reducible refine (rLink_isA HA.out HR D0.n.a hs).mono ?_; rintro e w5 ⟨rfl, hb5⟩; have D1 := D0.below hb5))
                    have HB5 := hid (Hbel2.out.drew.trans (hb5.mono Hbel2.out.drew.size))
                    have HBw5 := hid (bthen HB4.out.drew hb5 (Nat.le_refl _))
                    clear hb5 D0 x0 x1 x2 q0 q1 q2 q3 q4 q5 q6 q7
                    obtain ⟨x0, x1, x2, q0, q1, q2, q3, q4, q5, q6, q7⟩ := D1.cells
                    have E0 : Nli w5.drew g B0 N ad j := D1.below dr0
                    obtain ⟨v, hv⟩ : ∃ v, lkE N (N.l j) = v := ⟨_, rfl⟩
                    have hcl : ∀ (W : World) (B1 : Nat), Nt W B1 N → ( Calls Try.prog 43 #[.agg #[.slice N.A N.n N.c, .slice N.M N.m N.d, .slice (some ad) N.k N.e], .agg #[.string (N.l j).nm, .int .i64 (N.l j).kind, .string (N.l j).fr, .string (N.l j).tw, .int .i64 (N.l j).sill, .int .i64 (N.l j).rate, .int .i64 (N.l j).fac, .int .i64 (N.l j).lift]] W fun e w' => e = .returned (.int .i64 v) ∧ Below W.heap.size W w') := fun W B1 hh => by
                      rw [← HA.out, ← hv]
                      exact checkLink_any (N.l j) hh hs.n
                    have Hcl := hid hcl
                    have Hv := hid hv
                    clear hcl hv
                    go_wp2_with fail
                    go_region_held3 (fun w' => w'.cell? ⟨g, 0, none⟩ = some (.slice N.A N.n N.c) ∧ w'.cell? ⟨g, 1, none⟩ = some (.slice N.M N.m N.d) ∧ w'.cell? ⟨g, 2, none⟩ = some (.slice (some ad) N.k N.e) ∧ w'.cell? (ad.add (j * 8)) = some (.string (N.l j).nm) ∧ w'.cell? ⟨(ad.add (j * 8)).block, (ad.add (j * 8)).off + 1, none⟩ = some (.int .i64 (N.l j).kind) ∧ w'.cell? ⟨(ad.add (j * 8)).block, (ad.add (j * 8)).off + 2, none⟩ = some (.string (N.l j).fr) ∧ w'.cell? ⟨(ad.add (j * 8)).block, (ad.add (j * 8)).off + 3, none⟩ = some (.string (N.l j).tw) ∧ w'.cell? ⟨(ad.add (j * 8)).block, (ad.add (j * 8)).off + 4, none⟩ = some (.int .i64 (N.l j).sill) ∧ w'.cell? ⟨(ad.add (j * 8)).block, (ad.add (j * 8)).off + 5, none⟩ = some (.int .i64 (N.l j).rate) ∧ w'.cell? ⟨(ad.add (j * 8)).block, (ad.add (j * 8)).off + 6, none⟩ = some (.int .i64 (N.l j).fac) ∧ w'.cell? ⟨(ad.add (j * 8)).block, (ad.add (j * 8)).off + 7, none⟩ = some (.int .i64 (N.l j).lift)) (first | with_reducible exact Nli.cells E0 | with_reducible exact Nli.cells E1) (first
                      | (go_at_call 43; with_reducible refine (Hcl.out _ _ E0.n.a).mono ?_; rintro e w6 ⟨rfl, hb6⟩; have E1 := E0.below hb6))
                    have HB6 := hid (HB5.out.drew.trans (hb6.mono HB5.out.drew.size))
                    have HBw6 := hid (bthen HBw5.out.drew hb6 (Nat.le_refl _))
                    clear hb6 E0 E1 D1 x0 x1 x2 q0 q1 q2 q3 q4 q5 q6 q7 hnm
                    by_cases h0 : v = 0
                    · subst h0
                      have HG := hid (show LGood (fun i => (N.l i).nm) (fun i r => r = lkE N (N.l i)) j from ⟨HNM.out, Hno.out, Hv.out.symm⟩)
                      go_wp2
                      go_roundw
                      case rel => exact ⟨j + 1, by omega, by go_num, hid (fun k hk => by rcases Nat.lt_or_ge k j with h | h; exact HL.out k h; have : k = j := (by omega); subst this; exact HG.out), HB6.out⟩
                      case measure => simp [intOf]; omega
                    · have hq1 : (v != 0) = true := by rw [bne_iff_ne]; exact h0
                      have HE := Wbad.out v (.inr (.inr ⟨HNM.out, Hno.out, Hv.out.symm, h0⟩))
                      clear h0
                      go_wp2
                      go_ret
                      exact ⟨v, rfl, HE, HBw6.out⟩
                  · have dri : (r != (j : Int)) = true := by rw [bne_iff_ne]; exact hri
                    have hex : ∃ k, k < j ∧ (N.l k).nm = (N.l j).nm := Classical.byContradiction fun e => hri (HR1.out.2 fun k hk e' => e ⟨k, hk, e'⟩)
                    have HE := Wbad.out 5 (.inr (.inl ⟨hnm, hex, rfl⟩))
                    clear hri hex
                    go_wp2_with (((with_reducible refine (rIsName_any _ _ hsz).mono ?_); rintro e w' ⟨rfl, rfl⟩))
                    go_region_held3 (fun w' => w'.cell? ⟨g, 0, none⟩ = some (.slice N.A N.n N.c) ∧ w'.cell? ⟨g, 1, none⟩ = some (.slice N.M N.m N.d) ∧ w'.cell? ⟨g, 2, none⟩ = some (.slice (some ad) N.k N.e) ∧ w'.cell? (ad.add (j * 8)) = some (.string (N.l j).nm) ∧ w'.cell? ⟨(ad.add (j * 8)).block, (ad.add (j * 8)).off + 1, none⟩ = some (.int .i64 (N.l j).kind) ∧ w'.cell? ⟨(ad.add (j * 8)).block, (ad.add (j * 8)).off + 2, none⟩ = some (.string (N.l j).fr) ∧ w'.cell? ⟨(ad.add (j * 8)).block, (ad.add (j * 8)).off + 3, none⟩ = some (.string (N.l j).tw) ∧ w'.cell? ⟨(ad.add (j * 8)).block, (ad.add (j * 8)).off + 4, none⟩ = some (.int .i64 (N.l j).sill) ∧ w'.cell? ⟨(ad.add (j * 8)).block, (ad.add (j * 8)).off + 5, none⟩ = some (.int .i64 (N.l j).rate) ∧ w'.cell? ⟨(ad.add (j * 8)).block, (ad.add (j * 8)).off + 6, none⟩ = some (.int .i64 (N.l j).fac) ∧ w'.cell? ⟨(ad.add (j * 8)).block, (ad.add (j * 8)).off + 7, none⟩ = some (.int .i64 (N.l j).lift)) (first | with_reducible exact Nli.cells D0 | with_reducible exact Nli.cells D1) (first
                      | (go_at_call 21; with_reducible refine (rLink_isA HA.out HR D0.n.a hs).mono ?_; rintro e w5 ⟨rfl, hb5⟩; have D1 := D0.below hb5))
                    have HBw5 := hid (bthen HB4.out.drew hb5 (Nat.le_refl _))
                    clear hb5 D0 D1 x0 x1 x2 q0 q1 q2 q3 q4 q5 q6 q7
                    go_wp2
                    go_ret
                    exact ⟨5, rfl, HE, HBw5.out⟩
                · have hnm' := Bool.eq_false_iff.2 hnm
                  have HE := Wbad.out 4 (.inl ⟨hnm', rfl⟩)
                  clear hnm
                  go_wp2_with (((with_reducible refine (rIsName_any _ _ hsz).mono ?_); rintro e w' ⟨rfl, rfl⟩))
                  go_ret
                  exact ⟨4, rfl, HE, HB4.out⟩
              · have e : j = N.k := by omega
                have HE := hid (Cn.of_k (N := N) (q := 0) HBq.out hq.out (.inr ⟨by omega, .inr ⟨by rw [← e]; exact HL.out, rfl⟩⟩))
                have hd1 : decide ((j : Int) < (N.k : Int)) = false := decide_eq_false (by omega)
                clear e
                go_wp2
                go_ret
                exact ⟨0, rfl, HE, HB4.out⟩
        · have hq1 : (q != 0) = true := by rw [bne_iff_ne]; exact h0
          have HE := hid (Cn.of_s HBq.out hq.out h0)
          clear h0
          go_wp2
          go_ret
          exact ⟨q, rfl, HE, HB3.out⟩

end Go.Proofs.Ytndcopljjnbkbaa
