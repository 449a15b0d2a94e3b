/- Networks: Act of the reference at any link; the walk of WaterFlows. For every case and name. -/
import Derived.Test.YtndcopljjnbkbaaNt30
import Derived.Test.YtndcopljjnbkbaaNt19
import Derived.Test.YtndcopljjnbkbaaNt21
import Derived.Test.YtndcopljjnbkbaaNt22
namespace Go.Proofs.Ytndcopljjnbkbaa
open Go.RowKit Go.Maps Kb Wb

theorem link_ne {N : Nd} (h : Cn N 0) {i : Nat} (hi : i < N.k) : (N.l i).fr ≠ (N.l i).tw := fun e3 => by
  have hk := h.zero.2.2
  rcases hk with ⟨_, h⟩ | ⟨_, ⟨j, _, _, h⟩ | ⟨h, _⟩⟩
  · exact absurd h (by decide)
  · rcases h with ⟨_, h⟩ | ⟨_, _, h⟩ | ⟨_, _, _, h⟩
    · exact absurd h (by decide)
    · exact absurd h (by decide)
    · exact h rfl
  · have h := (h i hi).2.2
    have h : lkE N (N.l i) = 0 := h.symm
    unfold lkE at h
    by_cases h1 : endsE N (N.l i) = 0
    · unfold endsE at h1
      by_cases e1 : (N.l i).kind ≠ 0 ∧ (N.l i).kind ≠ 1
      · rw [if_pos e1] at h1; exact absurd h1 (by decide)
      · rw [if_neg e1] at h1
        by_cases e2 : ¬ (endB N (N.l i).fr = true ∧ endB N (N.l i).tw = true)
        · rw [if_pos e2] at h1; exact absurd h1 (by decide)
        · rw [if_neg e2, if_pos e3] at h1; exact absurd h1 (by decide)
    · rw [if_pos h1] at h
      exact absurd h h1
theorem place_ne {N : Nd} {W : Wd} {s s2 : ByteArray} {q q2 : Bool} {z x z2 x2 p p2 : Int} {b b2 : Bd} (h1 : Sds N W s q z b x) (h2 : Sds N W s2 q2 z2 b2 x2) (hp : Ixn N.n N.bnm s p) (hp2 : Ixn N.n N.bnm s2 p2) (hne : s ≠ s2) : p ≠ p2 := fun e => by
  subst e
  rcases hp with ⟨rfl, k1⟩ | ⟨i, hi, _, e1, rfl⟩
  · rcases h1 with ⟨rfl, _⟩ | ⟨_, i, hi, hx, _⟩
    · rcases h2 with ⟨rfl, _⟩ | ⟨_, j, hj, hy, _⟩
      · exact hne rfl
      · have := hp2.same hy; omega
    · have := (show Ixn N.n N.bnm s (-1) from .inl ⟨rfl, k1⟩).same hx; omega
  · rcases hp2 with ⟨e, _⟩ | ⟨j, hj, _, e2, e⟩
    · omega
    · have : i = j := by omega
      subst this
      exact hne (e1.symm.trans e2)
theorem Act_is {w : World} {B0 B1 : Nat} {N : Nd} {W : Wd} {i : Nat} {q : Bool} {z x : Int} {b : Bd} {q2 : Bool} {z2 x2 : Int} {b2 : Bd} (HS1 : Hid (Sds N W (N.l i).fr q z b x)) (HS2 : Hid (Sds N W (N.l i).tw q2 z2 b2 x2)) (HF : Hid (Fit N W)) (Hs : Hid (Nsm N)) (h : Nt w B0 N) (hw : Wt w B1 W) (hi : i < N.k) :
    Calls Try.prog 23 #[.agg #[.slice N.A N.n N.c, .slice N.M N.m N.d, .slice N.K N.k N.e], .agg #[.int .i64 W.min, .slice W.A W.n W.c, .slice W.M W.m W.d], .agg #[.string (N.l i).nm, .int .i64 (N.l i).kind, .string (N.l i).fr, .string (N.l i).tw, .int .i64 (N.l i).sill, .int .i64 (N.l i).rate, .int .i64 (N.l i).fac, .int .i64 (N.l i).lift]] w fun e w' => ∃ r : Int, e = .returned (.int .i64 r) ∧ Hid (Flw (N.l i) true q z b x q2 z2 b2 x2 r) ∧ Below w.heap.size w w' := by
  obtain ⟨p, hp⟩ := Ixn.exists N.n N.bnm (N.l i).fr
  obtain ⟨p2, hp2⟩ := Ixn.exists N.n N.bnm (N.l i).tw
  have hne := place_ne HS1.out HS2.out hp hp2 (link_ne HF.out.c hi)
  obtain ⟨⟨⟨okg, _⟩, r0, r1⟩, hk, _⟩ := link_ok HF.out.c hi
  have hm : 0 < W.m := by rw [HF.out.m]; omega
  rcases hk with hk | hk
  · obtain ⟨⟨s0', s1⟩, f0, f1⟩ := okg hk
    refine (Act_gate (Gv (N.l i) q z b x q2 z2 b2 x2) (Gv (N.l i) q2 z2 b2 x2 q z b x) _ _ h hw hk (hid fun V B0 B1 h k => height_is HS1.out HF.out Hs.out h k) (hid fun V B0 B1 h k => height_is HS2.out HF.out Hs.out h k)
      (hid fun hlt V B0 B1 h k => through_is HS1 HS2 (hid hp) (hid hp2) (hid hne) HF Hs h k hm s0' s1 f0 f1 r0 r1 hlt) (hid fun hlt V B0 B1 h k => through_is HS2 HS1 (hid hp2) (hid hp) (hid fun e => hne e.symm) HF Hs h k hm s0' s1 f0 f1 r0 r1 hlt)).mono ?_
    rintro e w' ⟨r, rfl, hr, hb⟩
    refine ⟨r, rfl, hid (.inr ⟨rfl, .inr ⟨hk, ?_⟩⟩), hb⟩
    rcases hr.out with ⟨h1, h2⟩ | ⟨h1, r', rfl, h2⟩ | ⟨h1, rfl⟩
    · exact .inr ⟨by omega, h2⟩
    · exact .inl ⟨h1, r', rfl, h2⟩
    · exact .inr ⟨by omega, .inl ⟨by omega, rfl⟩⟩
  · refine (Act_pump HS1 HS2 (hid hp) (hid hp2) (hid hne) HF Hs h hw hk r0 r1).mono ?_
    rintro e w' ⟨r, rfl, hr, hb⟩
    exact ⟨r, rfl, hid (.inr ⟨rfl, .inl ⟨hk, hr.out⟩⟩), hb⟩
theorem Gv.same {l : Ld} {q : Bool} {z x : Int} {b : Bd} {q2 : Bool} {z2 x2 : Int} {b2 : Bd} {r t : Int} (h : Gv l q z b x q2 z2 b2 x2 r) (k : Gv l q z b x q2 z2 b2 x2 t) : r = t := by
  rcases h with ⟨h1, rfl⟩ | ⟨h1, h2⟩ <;> rcases k with ⟨k1, rfl⟩ | ⟨k1, k2⟩
  · rfl
  · omega
  · omega
  · exact h2.same k2
theorem Flw.same {l : Ld} {o : Bool} {q : Bool} {z x : Int} {b : Bd} {q2 : Bool} {z2 x2 : Int} {b2 : Bd} {r t : Int} (h : Flw l o q z b x q2 z2 b2 x2 r) (k : Flw l o q z b x q2 z2 b2 x2 t) : r = t := by
  rcases h with ⟨h1, rfl⟩ | ⟨h1, ⟨h2, h3⟩ | ⟨h2, ⟨h3, r', rfl, h4⟩ | ⟨h3, h4⟩⟩⟩ <;> rcases k with ⟨k1, rfl⟩ | ⟨k1, ⟨k2, k3⟩ | ⟨k2, ⟨k3, t', rfl, k4⟩ | ⟨k3, k4⟩⟩⟩
  all_goals first
    | rfl
    | exact absurd (h1.symm.trans k1) (by decide)
    | (exfalso; omega)
    | exact h3.trans k3.symm
    | (rw [h4.same k4])
    | exact h4.same k4
theorem Cn.exists (N : Nd) : ∃ q, Cn N q := by
  obtain ⟨a, ha⟩ := Lsg.exists 8 N.n (fun i => (N.b i).nm) (fun i r => Sz (N.b i).n (N.b i).F (N.b i).S (N.b i).rim r) (fun i => Sz.exists _ _ _ _)
  obtain ⟨b, hb⟩ := Cs.exists N.m N.F N.L
  obtain ⟨c, hc⟩ := Lsg.exists 12 N.k (fun i => (N.l i).nm) (fun i r => r = lkE N (N.l i)) (fun i => ⟨_, rfl⟩)
  exact ⟨_, a, b, c, ha, hb, hc, rfl⟩
theorem We.exists (N : Nd) (W : Wd) : ∃ q, We N W q := by
  obtain ⟨q, hq⟩ := Cn.exists N
  by_cases h0 : q = 0
  · by_cases h1 : 0 ≤ W.min ∧ W.min ≤ 1000000
    · by_cases h2 : W.n = N.n ∧ W.m = N.k
      · by_cases h3 : ∀ i, i < N.n → LitOk N W i
        · exact ⟨0, q, hq, .inr ⟨h0, .inr ⟨h1, .inr ⟨h2, .inr ⟨h3, rfl⟩⟩⟩⟩⟩
        · exact ⟨2, q, hq, .inr ⟨h0, .inr ⟨h1, .inr ⟨h2, .inl ⟨h3, rfl⟩⟩⟩⟩⟩
      · exact ⟨11, q, hq, .inr ⟨h0, .inr ⟨h1, .inl ⟨h2, rfl⟩⟩⟩⟩
    · exact ⟨2, q, hq, .inr ⟨h0, .inl ⟨h1, rfl⟩⟩⟩
  · exact ⟨q, q, hq, .inl ⟨h0, rfl⟩⟩

end Go.Proofs.Ytndcopljjnbkbaa
