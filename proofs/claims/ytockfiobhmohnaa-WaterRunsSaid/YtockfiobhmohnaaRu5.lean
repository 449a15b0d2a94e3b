/- Networks: Course of the reference. For every network, state, turns and question that are right. -/
import Derived.Test.YtockfiobhmohnaaRu4
namespace Go.Proofs.Ytockfiobhmohnaa
open Go.RowKit Go.Maps Kb Wb

theorem Wt.inA {w : World} {Bz : Nat} {V : Wd} {a : Addr} (h : Wt w Bz V) (h0 : 0 < V.n) (ha : V.A = some a) : a.block < w.heap.size := by
  obtain ⟨ad, e, h1, _⟩ := h.x 0 h0
  rw [ha] at e
  injection e with e
  subst e
  exact Nat.lt_of_lt_of_le h1 h.le
theorem Wt.inM {w : World} {Bz : Nat} {V : Wd} {a : Addr} (h : Wt w Bz V) (h0 : 0 < V.m) (ha : V.M = some a) : a.block < w.heap.size := by
  obtain ⟨ad, e, h1, _⟩ := h.y 0 h0
  rw [ha] at e
  injection e with e
  subst e
  exact Nat.lt_of_lt_of_le h1 h.le
theorem Nwq.grown {w w' : World} {g B0 Bz : Nat} {N : Nd} {V : Wd} {o : Obj} {row : Option Nat} (h : Nwq w g B0 N V Bz o) (hg : w.grownBy w' row) (hr : ∀ k, row = some k → (0 < V.n → ∀ a, V.A = some a → a.block ≠ k) ∧ (0 < V.m → ∀ a, V.M = some a → a.block ≠ k)) (hk : ∀ k, row = some k → g + 3 ≤ k) (hN : Nt w' B0 N) : Nwq w' g B0 N V Bz o := by
  have ne : ∀ k, k < g + 3 → some k ≠ row := fun k hk2 e => by have := hk k e.symm; omega
  exact ⟨⟨(hg.block g h.n.b.lt (ne g (by omega))).trans h.n.b, hN⟩, (hg.block _ h.b.lt (ne _ (by omega))).trans h.b, h.a.grown hg hr, (hg.block _ h.q.lt (ne _ (by omega))).trans h.q⟩

set_option maxRecDepth 100000 in
set_option maxHeartbeats 8000000 in
theorem rCourse_any {w : World} {B0 B1 B2 u : Nat} {N : Nd} {W : Wd} {T : Tn} {P : Option Addr} {s : ByteArray} (n e bi : Nat) (hbi : bi < N.n) (HIX : Hid (Ixn N.n N.bnm s bi)) (HF : Hid (Fit N W)) (Hs : Hid (Nsm N)) (Hte : Hid (Te N T 0)) (h : Nt w B0 N) (hw : Wt w B1 W) (hT : Tl w B2 P T.p T.tm T.tl T.tp) (hn : n ≤ 200) (hk : ∀ i, i < n → W.min + ((i * e : Nat) : Int) ≤ 1000000) :
    Calls Try.prog 22 #[.agg #[.slice N.A N.n N.c, .slice N.M N.m N.d, .slice N.K N.k N.e], .agg #[.int .i64 W.min, .slice W.A W.n W.c, .slice W.M W.m W.d], .slice P T.p u, .agg #[.string s, .int .i64 (e : Int), .int .i64 (n : Int)]] w fun e' w' => ∃ A c, e' = .returned (.slice A n c) ∧ w'.ownsRow w.heap.size 3 1 (.slice A n c) n (ints (lvC N T W bi e) n) ∧ Below w.heap.size w w' := by
  have t0 : 0 ≤ W.min := HF.out.t0
  obtain ⟨i0, hi0, hz0, hz1, hz2⟩ := info_parts info_int
  have hs := Hs.out
  obtain ⟨g, hg⟩ : ∃ g, w.heap.size = g := ⟨_, rfl⟩
  have HB := hid ((((Below.refl w.heap.size w).alloc (Nat.le_refl _) (.cells #[.slice N.A N.n N.c, .slice N.M N.m N.d, .slice N.K N.k N.e] 26)).alloc (by simp) (.cells #[.int .i64 W.min, .slice W.A W.n W.c, .slice W.M W.m W.d] 30)).alloc (by simp; omega) (.cells #[.string s, .int .i64 (e : Int), .int .i64 (n : Int)] 56))
  have K1 := ((Nb.new h hg).below (alo (o := .cells #[.int .i64 W.min, .slice W.A W.n W.c, .slice W.M W.m W.d] 30))).below (alo (o := .cells #[.string s, .int .i64 (e : Int), .int .i64 (n : Int)] 56))
  have V1 : Bk _ (g + 1) _ := (Bk.of_alloc (w.alloc (.cells #[.slice N.A N.n N.c, .slice N.M N.m N.d, .slice N.K N.k N.e] 26)) (.cells #[.int .i64 W.min, .slice W.A W.n W.c, .slice W.M W.m W.d] 30) (by simp [hg])).alloc (.cells #[.string s, .int .i64 (e : Int), .int .i64 (n : Int)] 56)
  have R1 : Bk _ (g + 1 + 1) _ := Bk.of_alloc ((w.alloc (.cells #[.slice N.A N.n N.c, .slice N.M N.m N.d, .slice N.K N.k N.e] 26)).alloc (.cells #[.int .i64 W.min, .slice W.A W.n W.c, .slice W.M W.m W.d] 30)) (.cells #[.string s, .int .i64 (e : Int), .int .i64 (n : Int)] 56) (by simp [hg])
  have hs0 : (((w.alloc (.cells #[.slice N.A N.n N.c, .slice N.M N.m N.d, .slice N.K N.k N.e] 26)).alloc (.cells #[.int .i64 W.min, .slice W.A W.n W.c, .slice W.M W.m W.d] 30)).alloc (.cells #[.string s, .int .i64 (e : Int), .int .i64 (n : Int)] 56)).heap.size = g + 3 := by simp [hg]
  have HN := hid h
  have HT := hid hT
  have Hg := hid hg
  have Hwt := hid hw
  clear h hT hw
  go_enter Try.func22, Try.ntmps22
  go_wp2_with fail
  generalize ((w.alloc (.cells #[.slice N.A N.n N.c, .slice N.M N.m N.d, .slice N.K N.k N.e] 26)).alloc (.cells #[.int .i64 W.min, .slice W.A W.n W.c, .slice W.M W.m W.d] 30)).alloc (.cells #[.string s, .int .i64 (e : Int), .int .i64 (n : Int)] 56) = W0 at *
  have D : Nwq W0 g B0 N W B1 (.cells #[.string s, .int .i64 (e : Int), .int .i64 (n : Int)] 56 (0, 0)) := ⟨K1, V1, Hwt.out.below HB.out, R1⟩
  clear K1 V1 R1 hg
  have QC : ∀ w : World, Bk w (g + 1 + 1) (.cells #[.string s, .int .i64 (e : Int), .int .i64 (n : Int)] 56 (0, 0)) → w.cell? ⟨g + 1 + 1, 0, none⟩ = some (.string s) := fun w h => QC3 h
  have HK := hid hk
  clear hk
  go_loopw [9, 10] (fun sv iv wr => ∃ i : Nat, i ≤ n ∧ iv = .int .i64 i ∧ (∃ V Bz, Nwq wr g B0 N V Bz (.cells #[.string s, .int .i64 (e : Int), .int .i64 (n : Int)] 56 (0, 0)) ∧ Fit N V ∧ (V.min = W.min + (((i - 1) * e : Nat) : Int) ∧ V.X = (rnS N T W.min W.X W.Y ((i - 1) * e)).1 ∧ V.Y = (rnS N T W.min W.X W.Y ((i - 1) * e)).2) ∧ (∀ k, sv.ownBlock = some k → (0 < V.n → ∀ a, V.A = some a → a.block ≠ k) ∧ (0 < V.m → ∀ a, V.M = some a → a.block ≠ k))) ∧ wr.ownsRow w.heap.size 3 1 sv i (ints (lvC N T W bi e) i) ∧ (∀ k, sv.ownBlock = some k → g + 3 ≤ k) ∧ Below w.heap.size w wr ∧ g + 3 ≤ wr.heap.size) (fun _ iv _ => n - (intOf iv).toNat)
  case atStart => exact ⟨0, Nat.zero_le _, rfl, ⟨W, B1, D, HF.out, ⟨by simp, by simp [rnS], by simp [rnS]⟩, fun k hk => by simp [Value.ownBlock] at hk⟩, World.ownsRow_nil _ _ _ _, fun k hk => by simp [Value.ownBlock] at hk, HB.out, by omega⟩
  case round =>
    obtain ⟨i, hi, rfl, ⟨V, Bz, Di, hFV, ⟨hV1, hV2, hV3⟩, hsp⟩, hown, hg3, hbi2, hgz⟩ := hrel
    have HBi := hid hbi2
    have HFV := hid hFV
    have HSp := hid hsp
    have HG3 := hid hg3
    have OW := hid hown
    have HV := hid (And.intro hV1 (And.intro hV2 hV3))
    clear hbi2 D HB hFV hsp hg3 hown hV1 hV2 hV3
    obtain ⟨q0, q1, q2⟩ := Di.q.c3
    by_cases hlt : i < n
    · have dlt : decide ((i : Int) < (n : Int)) = true := decide_eq_true (by omega)
      have hbI : (bi : Int) < (N.n : Int) := by omega
      by_cases hip : 0 < i
      · have di0 : decide ((0 : Int) < (i : Int)) = true := decide_eq_true (by omega)
        have di1 : decide (0 < i) = true := decide_eq_true hip
        have hje : (i - 1) * e + e = i * e := by
          obtain ⟨j, rfl⟩ : ∃ j, i = j + 1 := ⟨i - 1, by omega⟩
          rw [Nat.add_sub_cancel, Nat.succ_mul]
        have HKe := hid (show V.min + (e : Int) ≤ 1000000 from by have := HK.out i hlt; rw [← hje] at this; rw [HV.out.1]; omega)
        obtain ⟨x0, x1, x2, x3, x4, x5, x6⟩ := Nwq.cells QC Di
        go_wp2_with fail
        clear x0 x1 x2 x3 x4 x5 x6 q0 q1 q2
        refine (rRun_any (W := V) (u := u) e HFV Hs Hte Di.n.a Di.a (HT.out.below HBi.out) HKe.out).mono ?_
        rintro e7 w7 ⟨v7, rfl, hv7, hb7⟩
        obtain ⟨A5, c5, M5, d5, rfl, hx5, hy5⟩ := hv7.out
        have D7 := Di.below hb7
        obtain ⟨z0, z1, z2⟩ := D7.b.c3
        have f0 := Bk.fz D7.b 0
        have f1 := Bk.fz D7.b 1
        have f2 := Bk.fz D7.b 2
        have hg7 : g + 1 < wr.heap.size := Di.b.lt
        have HBX := hid (bset3 (u0 := .int .i64 (V.min + ((e : Nat) : Int))) (u1 := .slice A5 N.n c5) (u2 := .slice M5 N.k d5) (HBi.out.trans (hb7.mono HBi.out.size)) (show w.heap.size ≤ g + 1 by rw [Hg.out]; omega))
        have DX : Nwq (((w7.setCell ⟨g + 1, 0, none⟩ (.int .i64 (V.min + ((e : Nat) : Int)))).setCell ⟨g + 1, 1, none⟩ (.slice A5 N.n c5)).setCell ⟨g + 1, 2, none⟩ (.slice M5 N.k d5)) g B0 N _ _ _ := D7.put hx5 hy5 hg7 (HN.out.below HBX.out)
        have HFX := hid (show Fit N (Wr N (V.min + ((e : Nat) : Int)) A5 c5 M5 d5 (rnS N T V.min V.X V.Y e).1 (rnS N T V.min V.X V.Y e).2) from by
          have h := rnS_ok (T := T) HFV.out.wp HN.out e HKe.out
          exact ⟨h.c, h.t0, h.t1, rfl, rfl, h.l⟩)
        have HDX := hid DX
        have hzX : g + 3 ≤ (((w7.setCell ⟨g + 1, 0, none⟩ (.int .i64 (V.min + ((e : Nat) : Int)))).setCell ⟨g + 1, 1, none⟩ (.slice A5 N.n c5)).setCell ⟨g + 1, 2, none⟩ (.slice M5 N.k d5)).heap.size := by have := D7.q.lt; simp [World.setCell]; omega
        have HVX := hid (show (Wr N (V.min + ((e : Nat) : Int)) A5 c5 M5 d5 (rnS N T V.min V.X V.Y e).1 (rnS N T V.min V.X V.Y e).2).min = W.min + ((i * e : Nat) : Int) ∧ (Wr N (V.min + ((e : Nat) : Int)) A5 c5 M5 d5 (rnS N T V.min V.X V.Y e).1 (rnS N T V.min V.X V.Y e).2).X = (rnS N T W.min W.X W.Y (i * e)).1 ∧ (Wr N (V.min + ((e : Nat) : Int)) A5 c5 M5 d5 (rnS N T V.min V.X V.Y e).1 (rnS N T V.min V.X V.Y e).2).Y = (rnS N T W.min W.X W.Y (i * e)).2 from by
          have hq : (rnS N T V.min V.X V.Y e) = rnS N T W.min W.X W.Y (i * e) := by rw [← hje, rnS_add, HV.out.1, HV.out.2.1, HV.out.2.2]
          refine ⟨?_, by show (rnS N T V.min V.X V.Y e).1 = _; rw [hq], by show (rnS N T V.min V.X V.Y e).2 = _; rw [hq]⟩
          show V.min + ((e : Nat) : Int) = _
          rw [HV.out.1, ← hje]; omega)
        have HSpX := hid (show ∀ k, u9.ownBlock = some k → (0 < (Wr N (V.min + ((e : Nat) : Int)) A5 c5 M5 d5 (rnS N T V.min V.X V.Y e).1 (rnS N T V.min V.X V.Y e).2).n → ∀ a, (Wr N (V.min + ((e : Nat) : Int)) A5 c5 M5 d5 (rnS N T V.min V.X V.Y e).1 (rnS N T V.min V.X V.Y e).2).A = some a → a.block ≠ k) ∧ (0 < (Wr N (V.min + ((e : Nat) : Int)) A5 c5 M5 d5 (rnS N T V.min V.X V.Y e).1 (rnS N T V.min V.X V.Y e).2).m → ∀ a, (Wr N (V.min + ((e : Nat) : Int)) A5 c5 M5 d5 (rnS N T V.min V.X V.Y e).1 (rnS N T V.min V.X V.Y e).2).M = some a → a.block ≠ k) from fun k hk => by
          have hlk := (OW.out.lt k hk).2
          refine ⟨fun _ a ha => ?_, fun _ a ha => ?_⟩
          · have ha : A5 = some a := ha
            have := (World.ownsRow.lt hx5 a.block (by rw [ha]; rfl)).1
            omega
          · have ha : M5 = some a := ha
            have := (World.ownsRow.lt hy5 a.block (by rw [ha]; rfl)).1
            omega)
        have OWX := hid (own_heap (own_below OW.out hb7) (w' := ((w7.setCell ⟨g + 1, 0, none⟩ (.int .i64 (V.min + ((e : Nat) : Int)))).setCell ⟨g + 1, 1, none⟩ (.slice A5 N.n c5)).setCell ⟨g + 1, 2, none⟩ (.slice M5 N.k d5)) (fun k hk => by
          have := HG3.out k hk
          exact ((Below.heap_setCell _ _ _ _ (show k ≠ g + 1 by omega)).trans (Below.heap_setCell _ _ _ _ (show k ≠ g + 1 by omega))).trans (Below.heap_setCell _ _ _ _ (show k ≠ g + 1 by omega))))
        clear hv7 hx5 hy5 hb7 Di DX
        have HEQ := hid (show (rnS N T V.min V.X V.Y e) = rnS N T W.min W.X W.Y (i * e) from by rw [← hje, rnS_add, HV.out.1, HV.out.2.1, HV.out.2.2])
        go_wp2_with fail
        generalize ((w7.setCell ⟨g + 1, 0, none⟩ (.int .i64 (V.min + ((e : Nat) : Int)))).setCell ⟨g + 1, 1, none⟩ (.slice A5 N.n c5)).setCell ⟨g + 1, 2, none⟩ (.slice M5 N.k d5) = wX at *
        generalize hVe : Wr N (V.min + ((e : Nat) : Int)) A5 c5 M5 d5 (rnS N T V.min V.X V.Y e).1 (rnS N T V.min V.X V.Y e).2 = V2 at *
        clear hVe HFV HSp HV OW HBi z0 z1 z2 f0 f1 f2 HKe HEQ
        rename Wd => V3
        clear hje
        have HLV0 := hid (show lvC N T W bi e i = lvB (N.b bi) (V3.X bi) from by unfold lvC; rw [HVX.out.2.1])
        obtain ⟨lv, hlv⟩ : ∃ lv, lvB (N.b bi) (V3.X bi) = lv := ⟨_, rfl⟩
        have HLV := hid hlv
        rw [hlv] at HLV0
        clear hlv
        have HD0 := hid ((HDX.out).below dr0)
        refine wp_region_late 12 (fun w' => w'.cell? ⟨g, 0, none⟩ = some (.slice N.A N.n N.c) ∧ w'.cell? ⟨g, 1, none⟩ = some (.slice N.M N.m N.d) ∧ w'.cell? ⟨g, 2, none⟩ = some (.slice N.K N.k N.e) ∧ w'.cell? ⟨g + 1, 0, none⟩ = some (.int .i64 V3.min) ∧ w'.cell? ⟨g + 1, 1, none⟩ = some (.slice V3.A V3.n V3.c) ∧ w'.cell? ⟨g + 1, 2, none⟩ = some (.slice V3.M V3.m V3.d) ∧ w'.cell? ⟨g + 1 + 1, 0, none⟩ = some (.string s)) (by kernel_rfl) (by with_reducible exact Nwq.cells QC HD0.out) (fun hHeld => ?_)
        refine wpLate_take 0 [0, 12] (v := ?_) rfl (by kernel_rfl) (by kernel_rfl) (by kernel_rfl) (fun _ _ _ h => h) (by kernel_rfl) (by kernel_rfl) (Or.inl ⟨by rfl, ?_⟩) hHeld ?_
        rotate_left
        · intro w hSw
          (try dsimp only at hSw)
          go_simp
          (try with_reducible rfl)
        (try simp only [Act.put, List.setIfInBounds_toArray, List.set_cons_zero, List.set_cons_succ])
        refine wpLate_take 1 [1, 12] (v := ?_) rfl (by kernel_rfl) (by kernel_rfl) (by kernel_rfl) (fun _ _ _ h => h) (by kernel_rfl) (by kernel_rfl) (Or.inl ⟨by rfl, ?_⟩) hHeld ?_
        rotate_left
        · intro w hSw
          (try dsimp only at hSw)
          go_simp
          (try with_reducible rfl)
        (try simp only [Act.put, List.setIfInBounds_toArray, List.set_cons_zero, List.set_cons_succ])
        refine wpLate_take 2 [2, 12] (v := ?_) rfl (by kernel_rfl) (by kernel_rfl) (by kernel_rfl) (fun _ _ _ h => h) (by kernel_rfl) (by kernel_rfl) (Or.inl ⟨by rfl, ?_⟩) hHeld ?_
        rotate_left
        · intro w hSw
          (try dsimp only at hSw)
          go_simp
          (try with_reducible rfl)
        (try simp only [Act.put, List.setIfInBounds_toArray, List.set_cons_zero, List.set_cons_succ])
        refine wpLate_take 4 [4, 12] (v := ?_) rfl (by kernel_rfl) (by kernel_rfl) (by kernel_rfl) (fun _ _ _ h => h) (by kernel_rfl) (by kernel_rfl) (Or.inl ⟨by rfl, ?_⟩) hHeld ?_
        rotate_left
        · intro w hSw
          (try dsimp only at hSw)
          go_simp
          (try with_reducible rfl)
        (try simp only [Act.put, List.setIfInBounds_toArray, List.set_cons_zero, List.set_cons_succ])
        refine wpLate_take 5 [5, 12] (v := ?_) rfl (by kernel_rfl) (by kernel_rfl) (by kernel_rfl) (fun _ _ _ h => h) (by kernel_rfl) (by kernel_rfl) (Or.inl ⟨by rfl, ?_⟩) hHeld ?_
        rotate_left
        · intro w hSw
          (try dsimp only at hSw)
          go_simp
          (try with_reducible rfl)
        (try simp only [Act.put, List.setIfInBounds_toArray, List.set_cons_zero, List.set_cons_succ])
        refine wpLate_take 6 [6, 12] (v := ?_) rfl (by kernel_rfl) (by kernel_rfl) (by kernel_rfl) (fun _ _ _ h => h) (by kernel_rfl) (by kernel_rfl) (Or.inl ⟨by rfl, ?_⟩) hHeld ?_
        rotate_left
        · intro w hSw
          (try dsimp only at hSw)
          go_simp
          (try with_reducible rfl)
        (try simp only [Act.put, List.setIfInBounds_toArray, List.set_cons_zero, List.set_cons_succ])
        refine wpLate_one 3 (by kernel_rfl) rfl (fun K hK => ?_)
        go_simp
        (go_at_call 47; (with_reducible refine (rLevels_ok HFX Hs.out HD0.out.n.a HD0.out.a).mono ?_); rintro e5 w5 ⟨v, rfl, hov, hb05⟩; obtain ⟨Al, cl, rfl⟩ := own_slice hov.out; have D1 := HD0.out.below hb05)
        clear hHeld
        refine hK.out _ _ (by with_reducible exact Nwq.cells QC D1) (fun hHeld => ?_)
        clear hK K
        (try simp only [Act.put, List.setIfInBounds_toArray, List.set_cons_zero, List.set_cons_succ])
        refine wpLate_one 7 (by kernel_rfl) rfl (fun K hK => ?_)
        go_simp
        (go_at_call 28; (with_reducible refine (rBasin_is HIX D1.n.a Hs.out).mono ?_); rintro e6 w6 ⟨rfl, hb56⟩; have D2 := D1.below hb56; obtain ⟨al, rfl, -, hcl⟩ := (own_xs (own_below hov.out hb56)).1 bi hbi; rw [ints_get _ hbi, HLV.out] at hcl; have HB6 := hid ((HBX.out.drew.trans (hb05.mono HBX.out.size)).trans (hb56.mono (Nat.le_trans HBX.out.size hb05.size))); have Own6 := hid (own_below (own_below (OWX.out.drew) hb05) hb56); have hB6s := HB6.out.size)
        clear hHeld
        refine hK.out _ _ (by with_reducible exact Nwq.cells QC D2) (fun hHeld => ?_)
        clear hK K
        (try simp only [Act.put, List.setIfInBounds_toArray, List.set_cons_zero, List.set_cons_succ])
        refine wpLate_take 8 [8, 12] (v := ?_) rfl (by kernel_rfl) (by kernel_rfl) (by kernel_rfl) (fun _ _ _ h => h) (by kernel_rfl) (by kernel_rfl) (Or.inl ⟨by rfl, ?_⟩) hHeld ?_
        rotate_left
        · intro w hSw
          (try dsimp only at hSw)
          go_simp
          (try with_reducible rfl)
        (try simp only [Act.put, List.setIfInBounds_toArray, List.set_cons_zero, List.set_cons_succ])
        refine wpLate_one 9 (by kernel_rfl) rfl (fun K hK => ?_)
        go_simp
        skip
        clear hHeld
        refine hK.out _ _ (by with_reducible exact Nwq.cells QC D2) (fun hHeld => ?_)
        clear hK K
        (try simp only [Act.put, List.setIfInBounds_toArray, List.set_cons_zero, List.set_cons_succ])
        refine wpLate_one 10 (by kernel_rfl) rfl (fun K hK => ?_)
        go_simp
        skip
        clear hHeld
        refine hK.out _ _ (by with_reducible exact Nwq.cells QC (D2.below (alo (o := .cells #[.int .i64 lv] 3)))) (fun hHeld => ?_)
        clear hK K
        (try simp only [Act.put, List.setIfInBounds_toArray, List.set_cons_zero, List.set_cons_succ])
        refine wpLate_one 11 (by kernel_rfl) rfl (fun K hK => ?_)
        rw [if_pos (by rfl)]
        (refine wp_append_lies _ _ _ _ (by rfl) w.heap.size 3 i0 (.int .i64 0) 1 8 Try.underlying27 hi0 hz0 hz1 hz2 rfl (by decide) u9 i _ (by rfl) (Own6.out.alloc _) ⟨w6.heap.size, 0, none⟩ 1 1 [.int .i64 lv] (by rfl) rfl (cell_one_new _ _ _) (one_cell (.int .i64 lv) rfl) (by decide) (by unfold maxLen; omega) (by omega) (by simp; omega) _ rfl ?_; intro g8 cap8 w8 hown8 hgrow8 hat8 hlt8; have HB8 := hid ((HB6.out.alloc HB6.out.size (.cells #[.int .i64 lv] 3)).grown hgrow8 (by simp; omega) (fun k hk => (Own6.out.lt k hk).1)); have D3 := Nwq.grown (D2.below (alo (o := .cells #[.int .i64 lv] 3))) hgrow8 HSpX.out HG3.out (HN.out.below HB8.out))
        clear hHeld
        refine hK.out _ _ (by with_reducible exact Nwq.cells QC D3) (fun hHeld => ?_)
        clear hK K
        (try simp only [Act.put, List.setIfInBounds_toArray, List.set_cons_zero, List.set_cons_succ])
        clear hHeld
        refine wpLate_last 12 rfl (by kernel_rfl) (by kernel_rfl) rfl (fun K hK => ?_)
        go_simp
        refine hK.out _ _ ?_
        clear hK K
        (try simp only [Act.put, List.setIfInBounds_toArray, List.set_cons_zero, List.set_cons_succ])
        clear HD0 D1 hb05 hb56 hov hcl
        have HD3 := hid D3
        have hk8 : ∀ k, (Value.slice (some ⟨g8, 0, none⟩) (i + 1) cap8).ownBlock = some k → g + 3 ≤ k ∧ (0 < V3.n → ∀ a, V3.A = some a → a.block ≠ k) ∧ (0 < V3.m → ∀ a, V3.M = some a → a.block ≠ k) := fun k hk => by
          have e9 : g8 = k := by simpa [Value.ownBlock] using hk
          subst e9
          rcases hat8 with h | h
          · exact ⟨HG3.out _ h, HSpX.out _ h⟩
          · simp at h
            have hl := D2.q.lt
            exact ⟨by omega, fun h0 a ha e => by have := D2.a.inA h0 ha; omega, fun h0 a ha e => by have := D2.a.inM h0 ha; omega⟩
        rw [← HLV0.out, ints_snoc (lvC N T W bi e) i] at hown8
        have HO8 := hid hown8
        have Hk8 := hid hk8
        have hz8 : g + 3 ≤ w8.heap.size := by have := D3.q.lt; omega
        clear hown8 hgrow8 hat8 hlt8 hk8 D2 D3 Own6
        go_wp2
        go_roundw
        case rel => exact ⟨i + 1, by omega, by go_num, ⟨V3, _, HD3.out, HFX.out, by rw [Nat.add_sub_cancel]; exact HVX.out, fun k hk => (Hk8.out k hk).2⟩, HO8.out, fun k hk => (Hk8.out k hk).1, HB8.out, hz8⟩
        case measure => simp [intOf]; omega
      · have di0 : decide ((0 : Int) < (i : Int)) = false := decide_eq_false (by omega)
        have di1 : decide (0 < i) = false := decide_eq_false hip
        have e0 : i = 0 := by omega
        have HV2 := hid (show V.min = W.min + ((i * e : Nat) : Int) ∧ V.X = (rnS N T W.min W.X W.Y (i * e)).1 ∧ V.Y = (rnS N T W.min W.X W.Y (i * e)).2 from by
          have h := HV.out
          rw [show (i - 1) * e = i * e by rw [e0]] at h
          exact h)
        clear e0 HV
        go_wp2_with fail
        clear q0 q1 q2
        have HLV0 := hid (show lvC N T W bi e i = lvB (N.b bi) (V.X bi) from by unfold lvC; rw [HV2.out.2.1])
        obtain ⟨lv, hlv⟩ : ∃ lv, lvB (N.b bi) (V.X bi) = lv := ⟨_, rfl⟩
        have HLV := hid hlv
        rw [hlv] at HLV0
        clear hlv
        have HD0 := hid ((Di).below dr0)
        refine wp_region_late 12 (fun w' => w'.cell? ⟨g, 0, none⟩ = some (.slice N.A N.n N.c) ∧ w'.cell? ⟨g, 1, none⟩ = some (.slice N.M N.m N.d) ∧ w'.cell? ⟨g, 2, none⟩ = some (.slice N.K N.k N.e) ∧ w'.cell? ⟨g + 1, 0, none⟩ = some (.int .i64 V.min) ∧ w'.cell? ⟨g + 1, 1, none⟩ = some (.slice V.A V.n V.c) ∧ w'.cell? ⟨g + 1, 2, none⟩ = some (.slice V.M V.m V.d) ∧ w'.cell? ⟨g + 1 + 1, 0, none⟩ = some (.string s)) (by kernel_rfl) (by with_reducible exact Nwq.cells QC HD0.out) (fun hHeld => ?_)
        refine wpLate_take 0 [0, 12] (v := ?_) rfl (by kernel_rfl) (by kernel_rfl) (by kernel_rfl) (fun _ _ _ h => h) (by kernel_rfl) (by kernel_rfl) (Or.inl ⟨by rfl, ?_⟩) hHeld ?_
        rotate_left
        · intro w hSw
          (try dsimp only at hSw)
          go_simp
          (try with_reducible rfl)
        (try simp only [Act.put, List.setIfInBounds_toArray, List.set_cons_zero, List.set_cons_succ])
        refine wpLate_take 1 [1, 12] (v := ?_) rfl (by kernel_rfl) (by kernel_rfl) (by kernel_rfl) (fun _ _ _ h => h) (by kernel_rfl) (by kernel_rfl) (Or.inl ⟨by rfl, ?_⟩) hHeld ?_
        rotate_left
        · intro w hSw
          (try dsimp only at hSw)
          go_simp
          (try with_reducible rfl)
        (try simp only [Act.put, List.setIfInBounds_toArray, List.set_cons_zero, List.set_cons_succ])
        refine wpLate_take 2 [2, 12] (v := ?_) rfl (by kernel_rfl) (by kernel_rfl) (by kernel_rfl) (fun _ _ _ h => h) (by kernel_rfl) (by kernel_rfl) (Or.inl ⟨by rfl, ?_⟩) hHeld ?_
        rotate_left
        · intro w hSw
          (try dsimp only at hSw)
          go_simp
          (try with_reducible rfl)
        (try simp only [Act.put, List.setIfInBounds_toArray, List.set_cons_zero, List.set_cons_succ])
        refine wpLate_take 4 [4, 12] (v := ?_) rfl (by kernel_rfl) (by kernel_rfl) (by kernel_rfl) (fun _ _ _ h => h) (by kernel_rfl) (by kernel_rfl) (Or.inl ⟨by rfl, ?_⟩) hHeld ?_
        rotate_left
        · intro w hSw
          (try dsimp only at hSw)
          go_simp
          (try with_reducible rfl)
        (try simp only [Act.put, List.setIfInBounds_toArray, List.set_cons_zero, List.set_cons_succ])
        refine wpLate_take 5 [5, 12] (v := ?_) rfl (by kernel_rfl) (by kernel_rfl) (by kernel_rfl) (fun _ _ _ h => h) (by kernel_rfl) (by kernel_rfl) (Or.inl ⟨by rfl, ?_⟩) hHeld ?_
        rotate_left
        · intro w hSw
          (try dsimp only at hSw)
          go_simp
          (try with_reducible rfl)
        (try simp only [Act.put, List.setIfInBounds_toArray, List.set_cons_zero, List.set_cons_succ])
        refine wpLate_take 6 [6, 12] (v := ?_) rfl (by kernel_rfl) (by kernel_rfl) (by kernel_rfl) (fun _ _ _ h => h) (by kernel_rfl) (by kernel_rfl) (Or.inl ⟨by rfl, ?_⟩) hHeld ?_
        rotate_left
        · intro w hSw
          (try dsimp only at hSw)
          go_simp
          (try with_reducible rfl)
        (try simp only [Act.put, List.setIfInBounds_toArray, List.set_cons_zero, List.set_cons_succ])
        refine wpLate_one 3 (by kernel_rfl) rfl (fun K hK => ?_)
        go_simp
        (go_at_call 47; (with_reducible refine (rLevels_ok HFV Hs.out HD0.out.n.a HD0.out.a).mono ?_); rintro e5 w5 ⟨v, rfl, hov, hb05⟩; obtain ⟨Al, cl, rfl⟩ := own_slice hov.out; have D1 := HD0.out.below hb05)
        clear hHeld
        refine hK.out _ _ (by with_reducible exact Nwq.cells QC D1) (fun hHeld => ?_)
        clear hK K
        (try simp only [Act.put, List.setIfInBounds_toArray, List.set_cons_zero, List.set_cons_succ])
        refine wpLate_one 7 (by kernel_rfl) rfl (fun K hK => ?_)
        go_simp
        (go_at_call 28; (with_reducible refine (rBasin_is HIX D1.n.a Hs.out).mono ?_); rintro e6 w6 ⟨rfl, hb56⟩; have D2 := D1.below hb56; obtain ⟨al, rfl, -, hcl⟩ := (own_xs (own_below hov.out hb56)).1 bi hbi; rw [ints_get _ hbi, HLV.out] at hcl; have HB6 := hid ((HBi.out.drew.trans (hb05.mono HBi.out.size)).trans (hb56.mono (Nat.le_trans HBi.out.size hb05.size))); have Own6 := hid (own_below (own_below (OW.out.drew) hb05) hb56); have hB6s := HB6.out.size)
        clear hHeld
        refine hK.out _ _ (by with_reducible exact Nwq.cells QC D2) (fun hHeld => ?_)
        clear hK K
        (try simp only [Act.put, List.setIfInBounds_toArray, List.set_cons_zero, List.set_cons_succ])
        refine wpLate_take 8 [8, 12] (v := ?_) rfl (by kernel_rfl) (by kernel_rfl) (by kernel_rfl) (fun _ _ _ h => h) (by kernel_rfl) (by kernel_rfl) (Or.inl ⟨by rfl, ?_⟩) hHeld ?_
        rotate_left
        · intro w hSw
          (try dsimp only at hSw)
          go_simp
          (try with_reducible rfl)
        (try simp only [Act.put, List.setIfInBounds_toArray, List.set_cons_zero, List.set_cons_succ])
        refine wpLate_one 9 (by kernel_rfl) rfl (fun K hK => ?_)
        go_simp
        skip
        clear hHeld
        refine hK.out _ _ (by with_reducible exact Nwq.cells QC D2) (fun hHeld => ?_)
        clear hK K
        (try simp only [Act.put, List.setIfInBounds_toArray, List.set_cons_zero, List.set_cons_succ])
        refine wpLate_one 10 (by kernel_rfl) rfl (fun K hK => ?_)
        go_simp
        skip
        clear hHeld
        refine hK.out _ _ (by with_reducible exact Nwq.cells QC (D2.below (alo (o := .cells #[.int .i64 lv] 3)))) (fun hHeld => ?_)
        clear hK K
        (try simp only [Act.put, List.setIfInBounds_toArray, List.set_cons_zero, List.set_cons_succ])
        refine wpLate_one 11 (by kernel_rfl) rfl (fun K hK => ?_)
        rw [if_pos (by rfl)]
        (refine wp_append_lies _ _ _ _ (by rfl) w.heap.size 3 i0 (.int .i64 0) 1 8 Try.underlying27 hi0 hz0 hz1 hz2 rfl (by decide) u9 i _ (by rfl) (Own6.out.alloc _) ⟨w6.heap.size, 0, none⟩ 1 1 [.int .i64 lv] (by rfl) rfl (cell_one_new _ _ _) (one_cell (.int .i64 lv) rfl) (by decide) (by unfold maxLen; omega) (by omega) (by simp; omega) _ rfl ?_; intro g8 cap8 w8 hown8 hgrow8 hat8 hlt8; have HB8 := hid ((HB6.out.alloc HB6.out.size (.cells #[.int .i64 lv] 3)).grown hgrow8 (by simp; omega) (fun k hk => (Own6.out.lt k hk).1)); have D3 := Nwq.grown (D2.below (alo (o := .cells #[.int .i64 lv] 3))) hgrow8 HSp.out HG3.out (HN.out.below HB8.out))
        clear hHeld
        refine hK.out _ _ (by with_reducible exact Nwq.cells QC D3) (fun hHeld => ?_)
        clear hK K
        (try simp only [Act.put, List.setIfInBounds_toArray, List.set_cons_zero, List.set_cons_succ])
        clear hHeld
        refine wpLate_last 12 rfl (by kernel_rfl) (by kernel_rfl) rfl (fun K hK => ?_)
        go_simp
        refine hK.out _ _ ?_
        clear hK K
        (try simp only [Act.put, List.setIfInBounds_toArray, List.set_cons_zero, List.set_cons_succ])
        clear HD0 D1 hb05 hb56 hov hcl
        have HD3 := hid D3
        have hk8 : ∀ k, (Value.slice (some ⟨g8, 0, none⟩) (i + 1) cap8).ownBlock = some k → g + 3 ≤ k ∧ (0 < V.n → ∀ a, V.A = some a → a.block ≠ k) ∧ (0 < V.m → ∀ a, V.M = some a → a.block ≠ k) := fun k hk => by
          have e9 : g8 = k := by simpa [Value.ownBlock] using hk
          subst e9
          rcases hat8 with h | h
          · exact ⟨HG3.out _ h, HSp.out _ h⟩
          · simp at h
            have hl := D2.q.lt
            exact ⟨by omega, fun h0 a ha e => by have := D2.a.inA h0 ha; omega, fun h0 a ha e => by have := D2.a.inM h0 ha; omega⟩
        rw [← HLV0.out, ints_snoc (lvC N T W bi e) i] at hown8
        have HO8 := hid hown8
        have Hk8 := hid hk8
        have hz8 : g + 3 ≤ w8.heap.size := by have := D3.q.lt; omega
        clear hown8 hgrow8 hat8 hlt8 hk8 D2 D3 Own6
        go_wp2
        go_roundw
        case rel => exact ⟨i + 1, by omega, by go_num, ⟨V, _, HD3.out, HFV.out, by rw [Nat.add_sub_cancel]; exact HV2.out, fun k hk => (Hk8.out k hk).2⟩, HO8.out, fun k hk => (Hk8.out k hk).1, HB8.out, hz8⟩
        case measure => simp [intOf]; omega
    · have dlt : decide ((i : Int) < (n : Int)) = false := decide_eq_false (by omega)
      obtain rfl : i = n := by omega
      obtain ⟨Af, cf, rfl⟩ := own_slice OW.out
      go_wp2
      go_ret
      exact ⟨Af, cf, rfl, OW.out, HBi.out⟩

end Go.Proofs.Ytockfiobhmohnaa

