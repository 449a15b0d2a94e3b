/- Networks: through and Act of the reference. For every network and state that fit each other. -/
import Derived.Test.YtndcopljjnbkbaaNt29
import Derived.Test.YtndcopljjnbkbaaNt24
namespace Go.Proofs.Ytndcopljjnbkbaa
open Go.RowKit Go.Maps Kb Wb

set_option maxRecDepth 100000 in
set_option maxHeartbeats 16000000 in
theorem through_low {w : World} {B0 B1 : Nat} {N : Nd} {W : Wd} {l : Ld} {s s2 : ByteArray} (a : Int) (h : Nt w B0 N) (hw : Wt w B1 W) (ha : a ≤ l.sill)
    (Ha : Hid (∀ (V : World) (B0 B1 : Nat), Nt V B0 N → Wt V B1 W → Calls Try.prog 61 #[.agg #[.slice N.A N.n N.c, .slice N.M N.m N.d, .slice N.K N.k N.e], .agg #[.int .i64 W.min, .slice W.A W.n W.c, .slice W.M W.m W.d], .string s] V fun e w' => e = .returned (.int .i64 a) ∧ Below V.heap.size V w')) :
    Calls Try.prog 62 #[.agg #[.slice N.A N.n N.c, .slice N.M N.m N.d, .slice N.K N.k N.e], .agg #[.int .i64 W.min, .slice W.A W.n W.c, .slice W.M W.m W.d], .agg #[.string l.nm, .int .i64 l.kind, .string l.fr, .string l.tw, .int .i64 l.sill, .int .i64 l.rate, .int .i64 l.fac, .int .i64 l.lift], .string s, .string s2] w fun e w' => e = .returned (.int .i64 0) ∧ Below w.heap.size w w' := by
  obtain ⟨g, hg⟩ : ∃ g, w.heap.size = g := ⟨_, rfl⟩
  obtain ⟨g1, hg1⟩ : ∃ g', g + 1 = g' := ⟨_, rfl⟩
  obtain ⟨g2, hg2⟩ : ∃ g', g1 + 1 = g' := ⟨_, rfl⟩
  have hb0 := (((Below.refl w.heap.size w).alloc (Nat.le_refl _) (.cells #[.slice N.A N.n N.c, .slice N.M N.m N.d, .slice N.K N.k N.e] 26)).alloc (by simp) (.cells #[.int .i64 W.min, .slice W.A W.n W.c, .slice W.M W.m W.d] 33)).alloc (by simp; omega) (.cells #[.string l.nm, .int .i64 l.kind, .string l.fr, .string l.tw, .int .i64 l.sill, .int .i64 l.rate, .int .i64 l.fac, .int .i64 l.lift] 59)
  have D := Tw.new l h hw hg hg1 hg2
  have d1 : decide (a ≤ l.sill) = true := decide_eq_true ha
  clear ha
  go_enter Try.func62, Try.ntmps62
  go_upto_region 1 with fail
  generalize ((w.alloc (.cells #[.slice N.A N.n N.c, .slice N.M N.m N.d, .slice N.K N.k N.e] 26)).alloc (.cells #[.int .i64 W.min, .slice W.A W.n W.c, .slice W.M W.m W.d] 33)).alloc (.cells #[.string l.nm, .int .i64 l.kind, .string l.fr, .string l.tw, .int .i64 l.sill, .int .i64 l.rate, .int .i64 l.fac, .int .i64 l.lift] 59) = W0 at *
  have HB0 := hid hb0
  have D0 := D.below dr0
  clear hb0 hg hg1 hg2 h hw D
  go_region_held3 (fun w' => w'.cell? ⟨g, 0, none⟩ = some (.slice N.A N.n N.c) ∧ w'.cell? ⟨g, 1, none⟩ = some (.slice N.M N.m N.d) ∧ w'.cell? ⟨g, 2, none⟩ = some (.slice N.K N.k N.e) ∧ w'.cell? ⟨g1, 0, none⟩ = some (.int .i64 W.min) ∧ w'.cell? ⟨g1, 1, none⟩ = some (.slice W.A W.n W.c) ∧ w'.cell? ⟨g1, 2, none⟩ = some (.slice W.M W.m W.d) ∧ w'.cell? ⟨g2, 0, none⟩ = some (.string l.nm) ∧ w'.cell? ⟨g2, 1, none⟩ = some (.int .i64 l.kind) ∧ w'.cell? ⟨g2, 2, none⟩ = some (.string l.fr) ∧ w'.cell? ⟨g2, 3, none⟩ = some (.string l.tw) ∧ w'.cell? ⟨g2, 4, none⟩ = some (.int .i64 l.sill) ∧ w'.cell? ⟨g2, 5, none⟩ = some (.int .i64 l.rate) ∧ w'.cell? ⟨g2, 6, none⟩ = some (.int .i64 l.fac) ∧ w'.cell? ⟨g2, 7, none⟩ = some (.int .i64 l.lift)) (first | with_reducible exact Tw.cells D0 | with_reducible exact Tw.cells D1) (first
    | (go_at_call 61; (with_reducible refine (Ha.out _ _ _ D0.n.a D0.a).mono ?_); rintro e w1 ⟨rfl, hb1⟩; have D1 := D0.below hb1))
  all_goals
    have HB1 := hid (bthen HB0.out.drew hb1 (Nat.le_refl _))
    clear hb1 D0
    go_wp2
    go_ret
    exact ⟨rfl, HB1.out⟩
theorem through_is {w : World} {B0 B1 : Nat} {N : Nd} {W : Wd} {l : Ld} {s s2 : ByteArray} {q : Bool} {z x : Int} {b : Bd} {q2 : Bool} {z2 x2 : Int} {b2 : Bd} {p p2 : Int} (HS1 : Hid (Sds N W s q z b x)) (HS2 : Hid (Sds N W s2 q2 z2 b2 x2)) (hp : Hid (Ixn N.n N.bnm s p)) (hp2 : Hid (Ixn N.n N.bnm s2 p2)) (Hne : Hid (p ≠ p2)) (HF : Hid (Fit N W)) (Hs : Hid (Nsm N)) (h : Nt w B0 N) (hw : Wt w B1 W) (hm : 0 < W.m)
    (s0' : -1000000 ≤ l.sill) (s1 : l.sill ≤ 1000000) (f0 : 0 ≤ l.fac) (f1 : l.fac ≤ 1000000000) (r0 : 0 ≤ l.rate) (r1 : l.rate ≤ 1000000000) (hlt : slev q2 z2 b2 x2 0 < slev q z b x 0) :
    Calls Try.prog 62 #[.agg #[.slice N.A N.n N.c, .slice N.M N.m N.d, .slice N.K N.k N.e], .agg #[.int .i64 W.min, .slice W.A W.n W.c, .slice W.M W.m W.d], .agg #[.string l.nm, .int .i64 l.kind, .string l.fr, .string l.tw, .int .i64 l.sill, .int .i64 l.rate, .int .i64 l.fac, .int .i64 l.lift], .string s, .string s2] w fun e w' => ∃ r : Int, e = .returned (.int .i64 r) ∧ Hid (Gv l q z b x q2 z2 b2 x2 r) ∧ (0 ≤ r ∧ r ≤ 2000000000) ∧ Below w.heap.size w w' := by
  have k1 := HS1.out.ok HF.out h
  have k2 := HS2.out.ok HF.out h
  have Ha := hid (fun (V : World) (B0 B1 : Nat) (h : Nt V B0 N) (k : Wt V B1 W) => (show Calls Try.prog 61 #[.agg #[.slice N.A N.n N.c, .slice N.M N.m N.d, .slice N.K N.k N.e], .agg #[.int .i64 W.min, .slice W.A W.n W.c, .slice W.M W.m W.d], .string s] V fun e w' => e = .returned (.int .i64 (slev q z b x 0)) ∧ Below V.heap.size V w' from height_is HS1.out HF.out Hs.out h k))
  by_cases hl : slev q z b x 0 ≤ l.sill
  · refine (through_low _ h hw hl Ha).mono ?_
    rintro e w' ⟨rfl, hb⟩
    exact ⟨0, rfl, hid (.inl ⟨by omega, rfl⟩), by omega, hb⟩
  · have hpos : 0 < slev q z b x 0 - max l.sill (slev q2 z2 b2 x2 0) := by omega
    have hz := Okp.zero (l := l) k1 k2 f0 hpos
    refine (through_ok (Okp l (slev q z b x 0 - max l.sill (slev q2 z2 b2 x2 0)) (sabo q b x l.sill) (sroom q2 b2 x2) q z b x q2 z2 b2 x2) _ h hw (by omega) r0 r1 hz (fun i k i0 ik hk => ⟨by have := hk.1; omega, Okp.mono k1 k2 (sabo_le k1 s1) sroom_is i0 ik hk.2⟩) Ha (hid fun V B0 B1 h' k' k h0 h1 => may_any HS1 HS2 hp hp2 Hne HF Hs h' k' hm s0' s1 f0 f1 h0 h1)).mono ?_
    rintro e w' ⟨r, rfl, hr, hb⟩
    have := hr.out.1
    have := hr.out.2.1
    exact ⟨r, rfl, hid (.inr ⟨hpos, hr.out⟩), by omega, hb⟩
/-- What a pump lifts. -/
def Pmp (l : Ld) (q : Bool) (z : Int) (b : Bd) (x : Int) (q2 : Bool) (z2 : Int) (b2 : Bd) (x2 r : Int) : Prop := r = if l.lift < slev q2 z2 b2 x2 0 - slev q z b x 0 then 0 else min (min l.rate (sabo q b x (-1000000))) (sroom q2 b2 x2)
set_option maxRecDepth 100000 in
set_option maxHeartbeats 16000000 in
theorem Act_pump {w : World} {B0 B1 : Nat} {N : Nd} {W : Wd} {l : Ld} {q : Bool} {z x : Int} {b : Bd} {q2 : Bool} {z2 x2 : Int} {b2 : Bd} {p p2 : Int} (HS1 : Hid (Sds N W l.fr q z b x)) (HS2 : Hid (Sds N W l.tw q2 z2 b2 x2)) (hp : Hid (Ixn N.n N.bnm l.fr p)) (hp2 : Hid (Ixn N.n N.bnm l.tw p2)) (Hne : Hid (p ≠ p2)) (HF : Hid (Fit N W)) (Hs : Hid (Nsm N)) (h : Nt w B0 N) (hw : Wt w B1 W) (hk : l.kind = 1) (r0 : 0 ≤ l.rate) (r1 : l.rate ≤ 1000000000) :
    Calls Try.prog 23 #[.agg #[.slice N.A N.n N.c, .slice N.M N.m N.d, .slice N.K N.k N.e], .agg #[.int .i64 W.min, .slice W.A W.n W.c, .slice W.M W.m W.d], .agg #[.string l.nm, .int .i64 l.kind, .string l.fr, .string l.tw, .int .i64 l.sill, .int .i64 l.rate, .int .i64 l.fac, .int .i64 l.lift]] w fun e w' => ∃ r : Int, e = .returned (.int .i64 r) ∧ Hid (Pmp l q z b x q2 z2 b2 x2 r) ∧ Below w.heap.size w w' := by
  have t1 := slev_range (HS1.out.ok HF.out h) (HS1.out.ok HF.out h).v0
  have t2 := slev_range (HS2.out.ok HF.out h) (HS2.out.ok HF.out h).v0
  obtain ⟨a, ha⟩ : ∃ a, slev q z b x 0 = a := ⟨_, rfl⟩
  obtain ⟨c, hc⟩ : ∃ c, slev q2 z2 b2 x2 0 = c := ⟨_, rfl⟩
  obtain ⟨m, hm⟩ : ∃ m, sabo q b x (-1000000) = m := ⟨_, rfl⟩
  obtain ⟨n, hn⟩ : ∃ n, sroom q2 b2 x2 = n := ⟨_, rfl⟩
  rw [ha] at t1
  rw [hc] at t2
  have HP := hid (fun v : Int => (show Pmp l q z b x q2 z2 b2 x2 v ↔ v = (if l.lift < c - a then 0 else min (min l.rate m) n) by unfold Pmp; rw [ha, hc, hm, hn]))
  have Ha := hid (fun (V : World) (B0 B1 : Nat) (h : Nt V B0 N) (k : Wt V B1 W) => (show Calls Try.prog 61 #[.agg #[.slice N.A N.n N.c, .slice N.M N.m N.d, .slice N.K N.k N.e], .agg #[.int .i64 W.min, .slice W.A W.n W.c, .slice W.M W.m W.d], .string l.fr] V fun e w' => e = .returned (.int .i64 a) ∧ Below V.heap.size V w' from ha ▸ height_is HS1.out HF.out Hs.out h k))
  have Hc := hid (fun (V : World) (B0 B1 : Nat) (h : Nt V B0 N) (k : Wt V B1 W) => (show Calls Try.prog 61 #[.agg #[.slice N.A N.n N.c, .slice N.M N.m N.d, .slice N.K N.k N.e], .agg #[.int .i64 W.min, .slice W.A W.n W.c, .slice W.M W.m W.d], .string l.tw] V fun e w' => e = .returned (.int .i64 c) ∧ Below V.heap.size V w' from hc ▸ height_is HS2.out HF.out Hs.out h k))
  have Hm' := hid hm
  have Hn := hid hn
  have hw0 : IntKind.i64.wrap (c - a) = c - a := IntWalk.i64_in _ (by omega)
  have dk : (l.kind == 0) = false := by rw [hk]; rfl
  obtain ⟨g, hg⟩ : ∃ g, w.heap.size = g := ⟨_, rfl⟩
  obtain ⟨g2, hg2⟩ : ∃ g', (g + 1) + 1 = g' := ⟨_, rfl⟩
  have hb0 := (((Below.refl w.heap.size w).alloc (Nat.le_refl _) (.cells #[.slice N.A N.n N.c, .slice N.M N.m N.d, .slice N.K N.k N.e] 26)).alloc (by simp) (.cells #[.int .i64 W.min, .slice W.A W.n W.c, .slice W.M W.m W.d] 33)).alloc (by simp; omega) (.cells #[.string l.nm, .int .i64 l.kind, .string l.fr, .string l.tw, .int .i64 l.sill, .int .i64 l.rate, .int .i64 l.fac, .int .i64 l.lift] 59)
  have D := Tw.new l h hw hg rfl hg2
  clear ha hc hm hn hk
  go_enter Try.func23, Try.ntmps23
  go_upto_region 1 with fail
  generalize ((w.alloc (.cells #[.slice N.A N.n N.c, .slice N.M N.m N.d, .slice N.K N.k N.e] 26)).alloc (.cells #[.int .i64 W.min, .slice W.A W.n W.c, .slice W.M W.m W.d] 33)).alloc (.cells #[.string l.nm, .int .i64 l.kind, .string l.fr, .string l.tw, .int .i64 l.sill, .int .i64 l.rate, .int .i64 l.fac, .int .i64 l.lift] 59) = W0 at *
  have HB0 := hid hb0
  have D0 := D.below dr0
  clear hb0 hg hg2 h hw D
  go_region_held3 (fun w' => w'.cell? ⟨g, 0, none⟩ = some (.slice N.A N.n N.c) ∧ w'.cell? ⟨g, 1, none⟩ = some (.slice N.M N.m N.d) ∧ w'.cell? ⟨g, 2, none⟩ = some (.slice N.K N.k N.e) ∧ w'.cell? ⟨g + 1, 0, none⟩ = some (.int .i64 W.min) ∧ w'.cell? ⟨g + 1, 1, none⟩ = some (.slice W.A W.n W.c) ∧ w'.cell? ⟨g + 1, 2, none⟩ = some (.slice W.M W.m W.d) ∧ w'.cell? ⟨g2, 0, none⟩ = some (.string l.nm) ∧ w'.cell? ⟨g2, 1, none⟩ = some (.int .i64 l.kind) ∧ w'.cell? ⟨g2, 2, none⟩ = some (.string l.fr) ∧ w'.cell? ⟨g2, 3, none⟩ = some (.string l.tw) ∧ w'.cell? ⟨g2, 4, none⟩ = some (.int .i64 l.sill) ∧ w'.cell? ⟨g2, 5, none⟩ = some (.int .i64 l.rate) ∧ w'.cell? ⟨g2, 6, none⟩ = some (.int .i64 l.fac) ∧ w'.cell? ⟨g2, 7, none⟩ = some (.int .i64 l.lift)) (first | with_reducible exact Tw.cells D0 | with_reducible exact Tw.cells D1 | with_reducible exact Tw.cells D2) (first
    | (go_at_call 61; (with_reducible refine (Ha.out _ _ _ D0.n.a D0.a).mono ?_); rintro e w1 ⟨rfl, hb1⟩; have D1 := D0.below hb1)
    | (go_at_call 61; (with_reducible refine (Hc.out _ _ _ D1.n.a D1.a).mono ?_); rintro e w2 ⟨rfl, hb2⟩; have D2 := D1.below hb2))
  have HB2 := hid (bthen (bthen HB0.out.drew hb1 (Nat.le_refl _)) hb2 (Nat.le_refl _))
  clear hb1 hb2 D0 D1
  obtain ⟨z0, z1, z2', z3, z4, z5, z6, z7, z8, z9, za, zb, zc, zd⟩ := D2.cells
  by_cases hl : l.lift < c - a
  · have dl : decide (l.lift < c - a) = true := decide_eq_true hl
    have HE := hid ((HP.out 0).2 (if_pos hl).symm)
    clear hl
    go_wp2
    go_ret
    exact ⟨0, rfl, HE, HB2.out⟩
  · have dl : decide (l.lift < c - a) = false := decide_eq_false hl
    obtain ⟨r, hr⟩ : ∃ r, min (min l.rate m) n = r := ⟨_, rfl⟩
    have HE := hid ((HP.out r).2 (by rw [if_neg hl]; exact hr.symm))
    have hcs : (m < l.rate ∧ n < m ∧ r = n) ∨ (m < l.rate ∧ ¬ n < m ∧ r = m) ∨ (¬ m < l.rate ∧ n < l.rate ∧ r = n) ∨ (¬ m < l.rate ∧ ¬ n < l.rate ∧ r = l.rate) := by omega
    clear hl hr
    go_wp2_with fail
    clear z0 z1 z2' z3 z4 z5 z6 z7 z8 z9 za zb zc zd dl dk hw0
    refine (rBasin_is hp D2.n.a Hs.out).mono ?_
    rintro e w3 ⟨rfl, hb⟩
    have D3 := D2.below hb
    have HB3 := hid (bthen HB2.out hb (Nat.le_refl _))
    clear hb D2
    rcases HS1.out.place hp.out (names_ne HF.out.c) with ⟨rfl, rfl⟩ | ⟨i, rfl, hii, rfl, rfl, rfl⟩
    · have HmX := hid (show m = 9223372036854775807 by rw [← Hm'.out]; rfl)
      have D4 := D3
      have HB4 := HB3
      clear D3
      obtain ⟨z0, z1, z2', z3, z4, z5, z6, z7, z8, z9, za, zb, zc, zd⟩ := D4.cells
      go_wp2_with fail
      clear z0 z1 z2' z3 z4 z5 z6 z7 z8 z9 za zb zc zd
      refine (rBasin_is hp2 D4.n.a Hs.out).mono ?_
      rintro e w5 ⟨rfl, hb⟩
      have D5 := D4.below hb
      have HB5 := hid (bthen HB4.out hb (Nat.le_refl _))
      clear hb D4
      rcases HS2.out.place hp2.out (names_ne HF.out.c) with ⟨rfl, rfl⟩ | ⟨j, rfl, hij, rfl, rfl, rfl⟩
      · have hn' : n = 9223372036854775807 := by rw [← Hn.out]; rfl
        have hX : r = l.rate := by have := HmX.out; omega
        clear hn' hcs
        go_wp2
        go_ret
        exact ⟨_, rfl, by rw [hX] at HE; exact HE, HB5.out⟩
      · have hn' : capB (N.b j) - W.X j = n := Hn.out
        have hjN : (j : Int) < (N.n : Int) := by omega
        have hjw : j < W.n := by have := HF.out.n; omega
        have hjW : (j : Int) < (W.n : Int) := by omega
        obtain ⟨ab, hab, -⟩ := D5.n.a.b.at_ j hij
        obtain ⟨al, hal, -, -⟩ := D5.a.x j hjw
        have E0 : Hi w5.drew g B0 B1 N W al ab j := (Hi.mk D5.n (⟨D5.k, D5.a⟩ : Wx w5 (g + 1) B1 W) hal hab hjw hij).below dr0
        have Bs := HF.out.c.bas hij
        have cr := capB_range Bs
        have hx := HF.out.l j hij
        unfold LitOk at hx
        have hcn : wbelow (N.b j).F (N.b j).S (N.b j).n (N.b j).rim - W.X j = n := hn'
        have hwq : IntKind.i64.wrap n = n := IntWalk.i64_in _ (by omega)
        clear hn' hx cr
        clear hab hal
        by_cases c6 : n < l.rate
        · skip
          have dj : decide (n < l.rate) = true := decide_eq_true c6
          have hX : r = n := by have := HmX.out; omega
          clear hcs
          go_wp2_with fail
          go_region_held3 (fun w' => w'.cell? ⟨g, 0, none⟩ = some (.slice (some ab) N.n N.c) ∧ w'.cell? ⟨g + 1, 1, none⟩ = some (.slice (some al) W.n W.c) ∧ w'.cell? (ab.add (j * 3)) = some (.string (N.b j).nm) ∧ w'.cell? ⟨(ab.add (j * 3)).block, (ab.add (j * 3)).off + 1, none⟩ = some (.slice (N.b j).A (N.b j).n (N.b j).c) ∧ w'.cell? ⟨(ab.add (j * 3)).block, (ab.add (j * 3)).off + 2, none⟩ = some (.int .i64 (N.b j).rim) ∧ w'.cell? (al.add j) = some (.int .i64 (W.X j))) (first | with_reducible exact Hi.cells E0 | with_reducible exact Hi.cells E1) (first
            | (go_at_call 28; (with_reducible refine (rCapacity_any (N.b j).nm E0.pa Bs).mono ?_); rintro e w6 ⟨rfl, hb6⟩; have E1 := E0.below hb6))
          have HB6 := hid (bthen HB5.out.drew hb6 (Nat.le_refl _))
          clear hb6 E0 E1
          go_wp2
          go_ret
          exact ⟨_, rfl, by rw [hX] at HE; exact HE, HB6.out⟩
        · skip
          have dj : decide (n < l.rate) = false := decide_eq_false c6
          have hX : r = l.rate := by have := HmX.out; omega
          clear hcs
          go_wp2_with fail
          go_region_held3 (fun w' => w'.cell? ⟨g, 0, none⟩ = some (.slice (some ab) N.n N.c) ∧ w'.cell? ⟨g + 1, 1, none⟩ = some (.slice (some al) W.n W.c) ∧ w'.cell? (ab.add (j * 3)) = some (.string (N.b j).nm) ∧ w'.cell? ⟨(ab.add (j * 3)).block, (ab.add (j * 3)).off + 1, none⟩ = some (.slice (N.b j).A (N.b j).n (N.b j).c) ∧ w'.cell? ⟨(ab.add (j * 3)).block, (ab.add (j * 3)).off + 2, none⟩ = some (.int .i64 (N.b j).rim) ∧ w'.cell? (al.add j) = some (.int .i64 (W.X j))) (first | with_reducible exact Hi.cells E0 | with_reducible exact Hi.cells E1) (first
            | (go_at_call 28; (with_reducible refine (rCapacity_any (N.b j).nm E0.pa Bs).mono ?_); rintro e w6 ⟨rfl, hb6⟩; have E1 := E0.below hb6))
          have HB6 := hid (bthen HB5.out.drew hb6 (Nat.le_refl _))
          clear hb6 E0 E1
          go_wp2
          go_ret
          exact ⟨_, rfl, by rw [hX] at HE; exact HE, HB6.out⟩
    · have Bi := HF.out.c.bas hii
      have hx0 := HF.out.l i hii
      unfold LitOk at hx0
      have cr0 := capB_range Bi
      have hv0 : volB (N.b i) (-1000000) = 0 := below_floor Bi (Bi.f 0 Bi.pos).1
      have hm' : W.X i - volB (N.b i) (-1000000) = m := Hm'.out
      have HmX := hid (show W.X i = m by omega)
      clear hm' hv0 hx0 cr0
      have hiN : (i : Int) < (N.n : Int) := by omega
      have hiw : i < W.n := by have := HF.out.n; omega
      have hiW : (i : Int) < (W.n : Int) := by omega
      obtain ⟨al, hal, -, hxc⟩ := D3.a.x i hiw
      have D4 := D3
      have HB4 := HB3
      by_cases c5 : W.X i < l.rate
      · have d5 : decide (W.X i < l.rate) = true := decide_eq_true c5
        clear D3
        obtain ⟨z0, z1, z2', z3, z4, z5, z6, z7, z8, z9, za, zb, zc, zd⟩ := D4.cells
        rw [hal] at z4
        have Hal' := hid hal
        clear hal
        go_wp2_with fail
        clear z0 z1 z2' z3 z4 z5 z6 z7 z8 z9 za zb zc zd
        refine (rBasin_is hp2 D4.n.a Hs.out).mono ?_
        rintro e w5 ⟨rfl, hb⟩
        have D5 := D4.below hb
        have HB5 := hid (bthen HB4.out hb (Nat.le_refl _))
        clear hb D4
        rcases HS2.out.place hp2.out (names_ne HF.out.c) with ⟨rfl, rfl⟩ | ⟨j, rfl, hij, rfl, rfl, rfl⟩
        · have hn' : n = 9223372036854775807 := by rw [← Hn.out]; rfl
          have hX : r = W.X i := by have := HmX.out; omega
          clear hn' hcs
          go_wp2
          go_ret
          exact ⟨_, rfl, by rw [hX] at HE; exact HE, HB5.out⟩
        · have hn' : capB (N.b j) - W.X j = n := Hn.out
          have hjN : (j : Int) < (N.n : Int) := by omega
          have hjw : j < W.n := by have := HF.out.n; omega
          have hjW : (j : Int) < (W.n : Int) := by omega
          obtain ⟨ab, hab, -⟩ := D5.n.a.b.at_ j hij
          obtain ⟨al, hal, -, -⟩ := D5.a.x j hjw
          have E0 : Hi w5.drew g B0 B1 N W al ab j := (Hi.mk D5.n (⟨D5.k, D5.a⟩ : Wx w5 (g + 1) B1 W) hal hab hjw hij).below dr0
          have Bs := HF.out.c.bas hij
          have cr := capB_range Bs
          have hx := HF.out.l j hij
          unfold LitOk at hx
          have hcn : wbelow (N.b j).F (N.b j).S (N.b j).n (N.b j).rim - W.X j = n := hn'
          have hwq : IntKind.i64.wrap n = n := IntWalk.i64_in _ (by omega)
          clear hn' hx cr
          clear hab hal
          by_cases c6 : n < W.X i
          · skip
            have dj : decide (n < W.X i) = true := decide_eq_true c6
            have hX : r = n := by have := HmX.out; omega
            clear hcs
            go_wp2_with fail
            go_region_held3 (fun w' => w'.cell? ⟨g, 0, none⟩ = some (.slice (some ab) N.n N.c) ∧ w'.cell? ⟨g + 1, 1, none⟩ = some (.slice (some al) W.n W.c) ∧ w'.cell? (ab.add (j * 3)) = some (.string (N.b j).nm) ∧ w'.cell? ⟨(ab.add (j * 3)).block, (ab.add (j * 3)).off + 1, none⟩ = some (.slice (N.b j).A (N.b j).n (N.b j).c) ∧ w'.cell? ⟨(ab.add (j * 3)).block, (ab.add (j * 3)).off + 2, none⟩ = some (.int .i64 (N.b j).rim) ∧ w'.cell? (al.add j) = some (.int .i64 (W.X j))) (first | with_reducible exact Hi.cells E0 | with_reducible exact Hi.cells E1) (first
              | (go_at_call 28; (with_reducible refine (rCapacity_any (N.b j).nm E0.pa Bs).mono ?_); rintro e w6 ⟨rfl, hb6⟩; have E1 := E0.below hb6))
            have HB6 := hid (bthen HB5.out.drew hb6 (Nat.le_refl _))
            clear hb6 E0 E1
            go_wp2
            go_ret
            exact ⟨_, rfl, by rw [hX] at HE; exact HE, HB6.out⟩
          · skip
            have dj : decide (n < W.X i) = false := decide_eq_false c6
            have hX : r = W.X i := by have := HmX.out; omega
            clear hcs
            go_wp2_with fail
            go_region_held3 (fun w' => w'.cell? ⟨g, 0, none⟩ = some (.slice (some ab) N.n N.c) ∧ w'.cell? ⟨g + 1, 1, none⟩ = some (.slice (some al) W.n W.c) ∧ w'.cell? (ab.add (j * 3)) = some (.string (N.b j).nm) ∧ w'.cell? ⟨(ab.add (j * 3)).block, (ab.add (j * 3)).off + 1, none⟩ = some (.slice (N.b j).A (N.b j).n (N.b j).c) ∧ w'.cell? ⟨(ab.add (j * 3)).block, (ab.add (j * 3)).off + 2, none⟩ = some (.int .i64 (N.b j).rim) ∧ w'.cell? (al.add j) = some (.int .i64 (W.X j))) (first | with_reducible exact Hi.cells E0 | with_reducible exact Hi.cells E1) (first
              | (go_at_call 28; (with_reducible refine (rCapacity_any (N.b j).nm E0.pa Bs).mono ?_); rintro e w6 ⟨rfl, hb6⟩; have E1 := E0.below hb6))
            have HB6 := hid (bthen HB5.out.drew hb6 (Nat.le_refl _))
            clear hb6 E0 E1
            go_wp2
            go_ret
            exact ⟨_, rfl, by rw [hX] at HE; exact HE, HB6.out⟩
      · have d5 : decide (W.X i < l.rate) = false := decide_eq_false c5
        clear D3
        obtain ⟨z0, z1, z2', z3, z4, z5, z6, z7, z8, z9, za, zb, zc, zd⟩ := D4.cells
        rw [hal] at z4
        have Hal' := hid hal
        clear hal
        go_wp2_with fail
        clear z0 z1 z2' z3 z4 z5 z6 z7 z8 z9 za zb zc zd
        refine (rBasin_is hp2 D4.n.a Hs.out).mono ?_
        rintro e w5 ⟨rfl, hb⟩
        have D5 := D4.below hb
        have HB5 := hid (bthen HB4.out hb (Nat.le_refl _))
        clear hb D4
        rcases HS2.out.place hp2.out (names_ne HF.out.c) with ⟨rfl, rfl⟩ | ⟨j, rfl, hij, rfl, rfl, rfl⟩
        · have hn' : n = 9223372036854775807 := by rw [← Hn.out]; rfl
          have hX : r = l.rate := by have := HmX.out; omega
          clear hn' hcs
          go_wp2
          go_ret
          exact ⟨_, rfl, by rw [hX] at HE; exact HE, HB5.out⟩
        · have hn' : capB (N.b j) - W.X j = n := Hn.out
          have hjN : (j : Int) < (N.n : Int) := by omega
          have hjw : j < W.n := by have := HF.out.n; omega
          have hjW : (j : Int) < (W.n : Int) := by omega
          obtain ⟨ab, hab, -⟩ := D5.n.a.b.at_ j hij
          obtain ⟨al, hal, -, -⟩ := D5.a.x j hjw
          have E0 : Hi w5.drew g B0 B1 N W al ab j := (Hi.mk D5.n (⟨D5.k, D5.a⟩ : Wx w5 (g + 1) B1 W) hal hab hjw hij).below dr0
          have Bs := HF.out.c.bas hij
          have cr := capB_range Bs
          have hx := HF.out.l j hij
          unfold LitOk at hx
          have hcn : wbelow (N.b j).F (N.b j).S (N.b j).n (N.b j).rim - W.X j = n := hn'
          have hwq : IntKind.i64.wrap n = n := IntWalk.i64_in _ (by omega)
          clear hn' hx cr
          clear hab hal
          by_cases c6 : n < l.rate
          · skip
            have dj : decide (n < l.rate) = true := decide_eq_true c6
            have hX : r = n := by have := HmX.out; omega
            clear hcs
            go_wp2_with fail
            go_region_held3 (fun w' => w'.cell? ⟨g, 0, none⟩ = some (.slice (some ab) N.n N.c) ∧ w'.cell? ⟨g + 1, 1, none⟩ = some (.slice (some al) W.n W.c) ∧ w'.cell? (ab.add (j * 3)) = some (.string (N.b j).nm) ∧ w'.cell? ⟨(ab.add (j * 3)).block, (ab.add (j * 3)).off + 1, none⟩ = some (.slice (N.b j).A (N.b j).n (N.b j).c) ∧ w'.cell? ⟨(ab.add (j * 3)).block, (ab.add (j * 3)).off + 2, none⟩ = some (.int .i64 (N.b j).rim) ∧ w'.cell? (al.add j) = some (.int .i64 (W.X j))) (first | with_reducible exact Hi.cells E0 | with_reducible exact Hi.cells E1) (first
              | (go_at_call 28; (with_reducible refine (rCapacity_any (N.b j).nm E0.pa Bs).mono ?_); rintro e w6 ⟨rfl, hb6⟩; have E1 := E0.below hb6))
            have HB6 := hid (bthen HB5.out.drew hb6 (Nat.le_refl _))
            clear hb6 E0 E1
            go_wp2
            go_ret
            exact ⟨_, rfl, by rw [hX] at HE; exact HE, HB6.out⟩
          · skip
            have dj : decide (n < l.rate) = false := decide_eq_false c6
            have hX : r = l.rate := by have := HmX.out; omega
            clear hcs
            go_wp2_with fail
            go_region_held3 (fun w' => w'.cell? ⟨g, 0, none⟩ = some (.slice (some ab) N.n N.c) ∧ w'.cell? ⟨g + 1, 1, none⟩ = some (.slice (some al) W.n W.c) ∧ w'.cell? (ab.add (j * 3)) = some (.string (N.b j).nm) ∧ w'.cell? ⟨(ab.add (j * 3)).block, (ab.add (j * 3)).off + 1, none⟩ = some (.slice (N.b j).A (N.b j).n (N.b j).c) ∧ w'.cell? ⟨(ab.add (j * 3)).block, (ab.add (j * 3)).off + 2, none⟩ = some (.int .i64 (N.b j).rim) ∧ w'.cell? (al.add j) = some (.int .i64 (W.X j))) (first | with_reducible exact Hi.cells E0 | with_reducible exact Hi.cells E1) (first
              | (go_at_call 28; (with_reducible refine (rCapacity_any (N.b j).nm E0.pa Bs).mono ?_); rintro e w6 ⟨rfl, hb6⟩; have E1 := E0.below hb6))
            have HB6 := hid (bthen HB5.out.drew hb6 (Nat.le_refl _))
            clear hb6 E0 E1
            go_wp2
            go_ret
            exact ⟨_, rfl, by rw [hX] at HE; exact HE, HB6.out⟩

end Go.Proofs.Ytndcopljjnbkbaa
