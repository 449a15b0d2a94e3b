/- Networks: CheckWater of the reference. -/
import Derived.Test.YtndcopljjnbkbaaNt14
namespace Go.Proofs.Ytndcopljjnbkbaa
open Go.RowKit Go.Maps Kb Wb

/-- What CheckWater tells of a state of a network that is right. -/
def Wq (N : Nd) (W : Wd) (r : Int) : Prop := (¬ (0 ≤ W.min ∧ W.min ≤ 1000000) ∧ r = 2) ∨ ((0 ≤ W.min ∧ W.min ≤ 1000000) ∧ ((¬ (W.n = N.n ∧ W.m = N.k) ∧ r = 11) ∨ ((W.n = N.n ∧ W.m = N.k) ∧ ((¬ (∀ i, i < N.n → LitOk N W i) ∧ r = 2) ∨ ((∀ i, i < N.n → LitOk N W i) ∧ r = 0)))))
theorem Wq.we {N : Nd} {W : Wd} {r : Int} (h : Wq N W r) (hC : Cn N 0) : We N W r := ⟨0, hC, .inr ⟨rfl, h⟩⟩

section
variable {w : World} {B0 B1 : Nat} {N : Nd} {W : Wd}
set_option maxRecDepth 100000 in
set_option maxHeartbeats 8000000 in
theorem rCheckWater_any (hC : Hid (Cn N 0)) (hs : Nsm N) (h : Nt w B0 N) (hw : Wt w B1 W) :
    Calls Try.prog 58 #[.agg #[.slice N.A N.n N.c, .slice N.M N.m N.d, .slice N.K N.k N.e], .agg #[.int .i64 W.min, .slice W.A W.n W.c, .slice W.M W.m W.d]] w fun e w' => ∃ r : Int, e = .returned (.int .i64 r) ∧ Hid (Wq N W r) ∧ Below w.heap.size w w' := by
  have hnn := hs.n
  have hkk := hs.k
  have hn9 : W.n ≤ 9223372036854775807 := by have := Nat.le_trans hw.nc hw.cm; unfold maxLen at this; omega
  have hm9 : W.m ≤ 9223372036854775807 := by have := Nat.le_trans hw.md hw.dm; unfold maxLen at this; omega
  obtain ⟨g, hg⟩ : ∃ g, w.heap.size = g := ⟨_, rfl⟩
  have hb0 := ((Below.refl w.heap.size w).alloc (Nat.le_refl _) (.cells #[.slice N.A N.n N.c, .slice N.M N.m N.d, .slice N.K N.k N.e] 26)).alloc (by simp) (.cells #[.int .i64 W.min, .slice W.A W.n W.c, .slice W.M W.m W.d] 33)
  have K1 := (Nb.new h hg).below (alo (o := .cells #[.int .i64 W.min, .slice W.A W.n W.c, .slice W.M W.m W.d] 33))
  have V1 : Wx _ (g + 1) B1 W := ⟨Bk.of_alloc (w.alloc (.cells #[.slice N.A N.n N.c, .slice N.M N.m N.d, .slice N.K N.k N.e] 26)) (.cells #[.int .i64 W.min, .slice W.A W.n W.c, .slice W.M W.m W.d] 33) (by simp [hg]), hw.below hb0⟩
  go_enter Try.func58, Try.ntmps58
  go_upto_region 1 with fail
  generalize (w.alloc (.cells #[.slice N.A N.n N.c, .slice N.M N.m N.d, .slice N.K N.k N.e] 26)).alloc (.cells #[.int .i64 W.min, .slice W.A W.n W.c, .slice W.M W.m W.d] 33) = W0 at *
  have HB0 := hid hb0
  clear hb0 h hg hw
  obtain ⟨x0, x1, x2⟩ := K1.cells
  obtain ⟨y0, y1, y2⟩ := V1.cells
  by_cases ht : inB W.min 0 1000000 = true
  · have ht' := hid (inB_iff.1 ht)
    by_cases hn : W.n = N.n
    · have Hn := hid hn
      have dn : ((W.n : Int) != (N.n : Int)) = false := by rw [bne_eq_false_iff_eq, hn]
      clear hn
      by_cases hm : W.m = N.k
      · have Hm := hid hm
        have dm : ((W.m : Int) != (N.k : Int)) = false := by rw [bne_eq_false_iff_eq, hm]
        clear hm
        go_wp2_with (((with_reducible refine (inside_any _ _ _ _).mono ?_); rintro e w' ⟨rfl, rfl⟩))
        clear x0 x1 x2 y0 y1 y2
        go_loopw [5] (fun iv wr => ∃ i : Nat, i ≤ W.n ∧ iv = .int .i64 i ∧ Hid (∀ j, j < i → LitOk N W j) ∧ Below W0.heap.size W0 wr) (fun iv _ => W.n - (intOf iv).toNat)
        case atStart => exact ⟨0, Nat.zero_le _, rfl, hid (fun j hj => absurd hj (Nat.not_lt_zero _)), Below.refl _ _⟩
        case round =>
          obtain ⟨i, hi, rfl, HN, hbel⟩ := hrel
          have K3 := K1.below hbel
          have V3 := V1.below hbel
          have HB3 := hid (bthen HB0.out hbel (Nat.le_refl _))
          have Hbel := hid hbel
          obtain ⟨y0, y1, y2⟩ := V3.cells
          clear hbel
          by_cases iW : i < W.n
          · have hlt : i < N.n := by have := Hn.out; omega
            have B := hC.out.bas hlt
            obtain ⟨ab, hab, -⟩ := K3.a.b.at_ i hlt
            obtain ⟨al, hal, -, -⟩ := V3.a.x i iW
            have D0 : Hi wr.drew g B0 B1 N W al ab i := (Hi.mk K3 V3 hal hab iW hlt).below dr0
            have dlt : decide ((i : Int) < (W.n : Int)) = true := decide_eq_true (by omega)
            have hil : (i : Int) < (W.n : Int) := by omega
            have hin : (i : Int) < (N.n : Int) := by omega
            obtain ⟨c, hc⟩ : ∃ c, capB (N.b i) = c := ⟨_, rfl⟩
            have Hcp := hid (fun (W : World) (hP : Pa W B0 (N.b i).A (N.b i).n (N.b i).F (N.b i).S) => (show Calls Try.prog 28 #[.agg #[.string (N.b i).nm, .slice (N.b i).A (N.b i).n (N.b i).c, .int .i64 (N.b i).rim]] W fun e w' => e = .returned (.int .i64 c) ∧ Below W.heap.size W w' from hc ▸ rCapacity_any (N.b i).nm hP B))
            have Hc := hid hc
            clear hab hal hc
            by_cases hok : inB (W.X i) 0 c = true
            · have HL := hid (show LitOk N W i by
                have := inB_iff.1 hok
                unfold LitOk
                rw [Hc.out]
                exact this)
              go_upto_region 8 with (fail)
              clear y0 y1 y2
              go_region_held3 (fun w' => w'.cell? ⟨g, 0, none⟩ = some (.slice (some ab) N.n N.c) ∧ w'.cell? ⟨g + 1, 1, none⟩ = some (.slice (some al) W.n W.c) ∧ w'.cell? (ab.add (i * 3)) = some (.string (N.b i).nm) ∧ w'.cell? ⟨(ab.add (i * 3)).block, (ab.add (i * 3)).off + 1, none⟩ = some (.slice (N.b i).A (N.b i).n (N.b i).c) ∧ w'.cell? ⟨(ab.add (i * 3)).block, (ab.add (i * 3)).off + 2, none⟩ = some (.int .i64 (N.b i).rim) ∧ w'.cell? (al.add i) = some (.int .i64 (W.X i))) (first | with_reducible exact Hi.cells D0 | with_reducible exact Hi.cells D1 | with_reducible exact Hi.cells D2) (first
                | (go_at_call 28; with_reducible refine (Hcp.out _ D0.pa).mono ?_; rintro e w3 ⟨rfl, hb3⟩; have D1 := D0.below hb3)
                | (go_at_call 51; with_reducible refine (inside_any _ _ _ _).mono ?_; rintro e w3e ⟨rfl, rfl⟩; have D2 := D1))
              all_goals
                have HB4 := hid (Hbel.out.drew.trans (hb3.mono Hbel.out.drew.size))
                clear hb3 D0 D1 D2
                go_wp2
                go_roundw
                case rel => exact ⟨i + 1, by omega, by go_num, hid (fun j hj => by rcases Nat.lt_or_ge j i with h | h; exact HN.out j h; have : j = i := (by omega); subst this; exact HL.out), HB4.out⟩
                case measure => simp [intOf]; omega
            · have HE := hid (show Wq N W 2 from .inr ⟨ht'.out, .inr ⟨⟨Hn.out, Hm.out⟩, .inl ⟨fun hh => hok (inB_t (by
                have := hh i hlt
                unfold LitOk at this
                rw [Hc.out] at this
                exact this)), rfl⟩⟩⟩)
              have hok0 := Bool.eq_false_iff.2 hok
              clear hok
              go_upto_region 8 with (fail)
              clear y0 y1 y2
              go_region_held3 (fun w' => w'.cell? ⟨g, 0, none⟩ = some (.slice (some ab) N.n N.c) ∧ w'.cell? ⟨g + 1, 1, none⟩ = some (.slice (some al) W.n W.c) ∧ w'.cell? (ab.add (i * 3)) = some (.string (N.b i).nm) ∧ w'.cell? ⟨(ab.add (i * 3)).block, (ab.add (i * 3)).off + 1, none⟩ = some (.slice (N.b i).A (N.b i).n (N.b i).c) ∧ w'.cell? ⟨(ab.add (i * 3)).block, (ab.add (i * 3)).off + 2, none⟩ = some (.int .i64 (N.b i).rim) ∧ w'.cell? (al.add i) = some (.int .i64 (W.X i))) (first | with_reducible exact Hi.cells D0 | with_reducible exact Hi.cells D1 | with_reducible exact Hi.cells D2) (first
                | (go_at_call 28; with_reducible refine (Hcp.out _ D0.pa).mono ?_; rintro e w3 ⟨rfl, hb3⟩; have D1 := D0.below hb3)
                | (go_at_call 51; with_reducible refine (inside_any _ _ _ _).mono ?_; rintro e w3e ⟨rfl, rfl⟩; have D2 := D1))
              all_goals
                have HB4 := hid (bthen HB3.out.drew hb3 (Nat.le_refl _))
                clear hb3 D0 D1 D2
                go_wp2
                go_ret
                exact ⟨2, rfl, HE, HB4.out⟩
          · have e : i = W.n := by omega
            have dlt : decide ((i : Int) < (W.n : Int)) = false := decide_eq_false (by omega)
            subst e
            have HE := hid (show Wq N W 0 from .inr ⟨ht'.out, .inr ⟨⟨Hn.out, Hm.out⟩, .inr ⟨fun i hi => HN.out i (by have := Hn.out; omega), rfl⟩⟩⟩)
            go_wp2
            go_ret
            exact ⟨0, rfl, HE, HB3.out⟩
      · have dm : ((W.m : Int) != (N.k : Int)) = true := by rw [bne_iff_ne]; omega
        have HE := hid (show Wq N W 11 from .inr ⟨ht'.out, .inl ⟨fun hh => hm hh.2, rfl⟩⟩)
        clear hm
        go_wp2_with (((with_reducible refine (inside_any _ _ _ _).mono ?_); rintro e w' ⟨rfl, rfl⟩))
        go_ret
        exact ⟨11, rfl, HE, HB0.out⟩
    · have dn : ((W.n : Int) != (N.n : Int)) = true := by rw [bne_iff_ne]; omega
      have HE := hid (show Wq N W 11 from .inr ⟨ht'.out, .inl ⟨fun hh => hn hh.1, rfl⟩⟩)
      clear hn
      go_wp2_with (((with_reducible refine (inside_any _ _ _ _).mono ?_); rintro e w' ⟨rfl, rfl⟩))
      go_ret
      exact ⟨11, rfl, HE, HB0.out⟩
  · have HE := hid (show Wq N W 2 from .inl ⟨fun hh => ht (inB_t hh), rfl⟩)
    have ht0 := Bool.eq_false_iff.2 ht
    clear ht
    go_wp2_with (((with_reducible refine (inside_any _ _ _ _).mono ?_); rintro e w' ⟨rfl, rfl⟩))
    go_ret
    exact ⟨2, rfl, HE, HB0.out⟩
end

end Go.Proofs.Ytndcopljjnbkbaa
