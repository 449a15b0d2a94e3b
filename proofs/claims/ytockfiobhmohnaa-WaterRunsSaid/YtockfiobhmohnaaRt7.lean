/- Networks: Step of the reference. For every network and state that fit each other. -/
import Derived.Test.YtockfiobhmohnaaGn
namespace Go.Proofs.Ytockfiobhmohnaa
open Go.RowKit Go.Maps Kb Wb

theorem Ro.putMin {w : World} {gb bs c d : Nat} {N : Nd} {t : Int} {X : Nat → Int} {Y : Nat → Bool} {A M : Option Addr} (h : Ro w gb bs N t X Y A c M d) (v : Int) : Ro (w.setCell ⟨gb, 0, none⟩ (.int .i64 v)) gb bs N v X Y A c M d := by
  refine ⟨?_, ?_, ?_⟩
  · have hb := h.b
    unfold Bk at hb ⊢
    simp only [World.setCell, Array.getElem?_modify, hb]
    simp
  · refine h.x.kept (gb_set (World.grownBy.refl _ (some gb)) 0 _) (.inr ?_)
    rcases h.x.2 with ⟨e, _⟩ | ⟨g', cap, cur', e, _, hg', _⟩
    · rw [e]; simp [Value.ownBlock]
    · rw [e]
      simp only [Value.ownBlock]
      exact fun e => bk_ty h.b (show Bk w g' (.cells cur' 3 (0, 0)) from hg') (by decide) (by injection e with e; exact e.symm)
  · refine h.y.kept (gb_set (World.grownBy.refl _ (some gb)) 0 _) (.inr ?_)
    rcases h.y.2 with ⟨e, _⟩ | ⟨g', cap, cur', e, _, hg', _⟩
    · rw [e]; simp [Value.ownBlock]
    · rw [e]
      simp only [Value.ownBlock]
      exact fun e => bk_ty h.b (show Bk w g' (.cells cur' 4 (0, 0)) from hg') (by decide) (by injection e with e; exact e.symm)

theorem ty_ne {w : World} {b b' n n' : Nat} {T T' : TypeId} {v v' : Value} {xs xs' : List Value} (h : w.ownsRow b T 1 v n xs) (k : w.ownsRow b' T' 1 v' n' xs') (hT : T ≠ T') : v.ownBlock = none ∨ v.ownBlock ≠ v'.ownBlock := by
  rcases h.2 with ⟨e, _⟩ | ⟨g, cap, cur, e, _, hg, _⟩
  · exact .inl (by rw [e]; rfl)
  · refine .inr ?_
    rcases k.2 with ⟨e', _⟩ | ⟨g', cap', cur', e', _, hg', _⟩
    · rw [e, e']; simp [Value.ownBlock]
    · rw [e, e']
      simp only [Value.ownBlock]
      exact fun q => bk_ty (show Bk w g (.cells cur T (0, 0)) from hg) (show Bk w g' (.cells cur' T' (0, 0)) from hg') hT (by injection q)

set_option maxRecDepth 100000 in
set_option maxHeartbeats 8000000 in
theorem rStep_any {w : World} {B0 B1 : Nat} {N : Nd} {W : Wd} (HF : Hid (Fit N W)) (Hs : Hid (Nsm N)) (h : Nt w B0 N) (hw : Wt w B1 W) :
    Calls Try.prog 13 #[.agg #[.slice N.A N.n N.c, .slice N.M N.m N.d, .slice N.K N.k N.e], .agg #[.int .i64 W.min, .slice W.A W.n W.c, .slice W.M W.m W.d]] w fun e w' => ∃ v x, e = .returned (.tuple #[v, x]) ∧ Hid (Wo w.heap.size w' N (W.min + 1) (stX N W.min W.Y W.X N.k) W.Y v) ∧ w'.ownsRow w.heap.size 3 1 x N.k (ints (fwX N W.min W.Y W.X) N.k) ∧ Below w.heap.size w w' := by
  obtain ⟨g, hg⟩ : ∃ g, w.heap.size = g := ⟨_, rfl⟩
  have hb0 := (((Below.refl w.heap.size w).alloc (Nat.le_refl _) (.cells #[.slice N.A N.n N.c, .slice N.M N.m N.d, .slice N.K N.k N.e] 26)).alloc (by simp) (.cells #[.int .i64 W.min, .slice W.A W.n W.c, .slice W.M W.m W.d] 30)).alloc (by simp; omega) (.cells #[.int .i64 0, .slice none 0 0, .slice none 0 0] 30)
  have K1 := ((Nb.new h hg).below (alo (o := .cells #[.int .i64 W.min, .slice W.A W.n W.c, .slice W.M W.m W.d] 30))).below (alo (o := .cells #[.int .i64 0, .slice none 0 0, .slice none 0 0] 30))
  have V1 : Wx _ (g + 1) B1 W := ⟨(Bk.of_alloc (w.alloc (.cells #[.slice N.A N.n N.c, .slice N.M N.m N.d, .slice N.K N.k N.e] 26)) (.cells #[.int .i64 W.min, .slice W.A W.n W.c, .slice W.M W.m W.d] 30) (by simp [hg])).alloc (.cells #[.int .i64 0, .slice none 0 0, .slice none 0 0] 30), hw.below hb0⟩
  have R1 : Bk _ (g + 1 + 1) _ := Bk.of_alloc ((w.alloc (.cells #[.slice N.A N.n N.c, .slice N.M N.m N.d, .slice N.K N.k N.e] 26)).alloc (.cells #[.int .i64 W.min, .slice W.A W.n W.c, .slice W.M W.m W.d] 30)) (.cells #[.int .i64 0, .slice none 0 0, .slice none 0 0] 30) (by simp [hg])
  have hs0 : (((w.alloc (.cells #[.slice N.A N.n N.c, .slice N.M N.m N.d, .slice N.K N.k N.e] 26)).alloc (.cells #[.int .i64 W.min, .slice W.A W.n W.c, .slice W.M W.m W.d] 30)).alloc (.cells #[.int .i64 0, .slice none 0 0, .slice none 0 0] 30)).heap.size = g + 3 := by simp [hg]
  obtain ⟨i0, hi0, hz0, hz1, hz2⟩ := info_parts info_int
  go_enter Try.func13, Try.ntmps13
  go_wp2_with fail
  generalize ((w.alloc (.cells #[.slice N.A N.n N.c, .slice N.M N.m N.d, .slice N.K N.k N.e] 26)).alloc (.cells #[.int .i64 W.min, .slice W.A W.n W.c, .slice W.M W.m W.d] 30)).alloc (.cells #[.int .i64 0, .slice none 0 0, .slice none 0 0] 30) = W0 at *
  have HB0 := hid hb0
  have Hg := hid hg
  have Hs0 := hid hs0
  have HKV := hid (fun (V : World) (hV : Below W0.heap.size W0 V) => (show Nb V g B0 N ∧ Wx V (g + 1) B1 W ∧ Bk V (g + 1 + 1) (.cells #[.int .i64 0, .slice none 0 0, .slice none 0 0] 30 (0, 0)) from ⟨K1.below hV, V1.below hV, R1.step hV⟩))
  clear hb0 hg hs0 h hw R1 K1
  refine (Copy_all HF.out Hs.out V1.a).mono ?_
  rintro e w2 ⟨A, c, M, d, rfl, hx, hy, hb⟩
  obtain ⟨gb, hgb⟩ : ∃ gb, w2.heap.size = gb := ⟨_, rfl⟩
  have hba := alo (W := w2) (o := .cells #[.int .i64 W.min, .slice A N.n c, .slice M N.k d] 30)
  have O3 : Ro _ gb W0.heap.size N W.min W.X W.Y A c M d := ⟨Bk.of_alloc w2 _ hgb, own_below hx hba, own_below hy hba⟩
  have HB3 := hid (hb.trans (hba.mono hb.size))
  have HGB := hid (show W0.heap.size ≤ gb from by rw [← hgb]; exact hb.size)
  clear V1 hx hy hba hb
  go_wp2_with fail
  generalize w2.alloc (.cells #[.int .i64 W.min, .slice A N.n c, .slice M N.k d] 30) = w3 at *
  clear hgb
  go_loopw [7, 8] (fun fv iv wr => ∃ i : Nat, i ≤ N.k ∧ iv = .int .i64 i ∧ (∃ A c M d, Ro wr gb W0.heap.size N W.min (stX N W.min W.Y W.X i) W.Y A c M d ∧ ∀ k, fv.ownBlock = some k → (Value.slice A N.n c).ownBlock ≠ some k) ∧ wr.ownsRow W0.heap.size 3 1 fv i (ints (fwX N W.min W.Y W.X) i) ∧ (∀ k, fv.ownBlock = some k → gb < k) ∧ Below W0.heap.size W0 wr) (fun _ iv _ => N.k - (intOf iv).toNat)
  case atStart => exact ⟨0, Nat.zero_le _, rfl, ⟨A, c, M, d, O3, fun k hk => by simp [Value.ownBlock] at hk⟩, World.ownsRow_nil _ _ _ _, fun k hk => by simp [Value.ownBlock] at hk, HB3.out⟩
  case round =>
    obtain ⟨i, hi, rfl, ⟨A, c, M, d, Oi, hsep⟩, hown, hfb, hbi⟩ := hrel
    have HBi := hid hbi
    have Own1 := hid hown
    have HSep := hid hsep
    have Hfb := hid hfb
    obtain ⟨Ki, Vi, Zi⟩ := HKV.out _ HBi.out
    clear hown hsep hbi O3 HB3 hfb
    by_cases hlt : i < N.k
    · obtain ⟨al, hal, -⟩ := Ki.a.l.at_ i hlt
      have D := Nro.mk Ki Oi hal hlt
      have dlt : decide ((i : Int) < (N.k : Int)) = true := decide_eq_true (by omega)
      have hiI : (i : Int) < (N.k : Int) := by omega
      have him : i < W.m := by rw [HF.out.m]; exact hlt
      have hiM : (i : Int) < (W.m : Int) := by omega
      obtain ⟨ay, hay, -, hy⟩ := Vi.a.y i him
      obtain ⟨x0, x1, x2⟩ := Ki.cells
      obtain ⟨y0, y1, y2⟩ := Vi.cells
      rw [hay] at y2
      have HK := hid hal
      have HFi := hid (stX_ok HF.out.wp Ki.a i hi)
      have HFw := hid (fwX_ok HF.out.wp Ki.a hlt)
      clear hal Ki Vi Zi Oi hay
      cases ho : W.Y i
      case false =>
        rw [ho] at hy
        have hr0 := hid (show fwX N W.min W.Y W.X i = 0 from by unfold fwX; rw [ho]; exact flo_shut N W.min _ i HF.out.c hlt)
        have Hr := hid (show -1000000000 ≤ (0 : Int) ∧ (0 : Int) ≤ 1000000000 from by omega)
        clear HFw
        go_wp2_with fail
        clear x0 x1 x2 y0 y1 y2 hy
        have HMV := hid (fun (V : World) (B0 B : Nat) (h : Nt V B0 N) (k : Wt V B (Wr N W.min A c M d (stX N W.min W.Y W.X i) W.Y)) => (show Calls Try.prog 43 #[.agg #[.slice N.A N.n N.c, .slice N.M N.m N.d, .slice (some al) N.k N.e], .agg #[.int .i64 W.min, .slice A N.n c, .slice M N.k d], .string (N.l i).fr, .string (N.l i).tw, .int .i64 0] V fun e w' => ∃ A5 c5 M5 d5, e = .returned (.agg #[.int .i64 W.min, .slice A5 N.n c5, .slice M5 N.k d5]) ∧ w'.ownsRow V.heap.size 3 1 (.slice A5 N.n c5) N.n (ints (mvX N (stX N W.min W.Y W.X i) i 0) N.n) ∧ w'.ownsRow V.heap.size 4 1 (.slice M5 N.k d5) N.k (bools W.Y N.k) ∧ Below V.heap.size V w' from moved_isA (W := Wr N W.min A c M d (stX N W.min W.Y W.X i) W.Y) HK.out (hid ⟨HFi.out.c, HFi.out.t0, HFi.out.t1, rfl, rfl, HFi.out.l⟩) Hs h k hlt Hr.out.1 Hr.out.2))
        have HE0 := hid (D.below dr0)
        refine wp_region_late 16 (fun w' => w'.cell? ⟨g, 0, none⟩ = some (.slice N.A N.n N.c) ∧ w'.cell? ⟨g, 1, none⟩ = some (.slice N.M N.m N.d) ∧ w'.cell? ⟨g, 2, none⟩ = some (.slice (some al) N.k N.e) ∧ w'.cell? ⟨gb, 0, none⟩ = some (.int .i64 W.min) ∧ w'.cell? ⟨gb, 1, none⟩ = some (.slice A N.n c) ∧ w'.cell? ⟨gb, 2, none⟩ = some (.slice M N.k d) ∧ w'.cell? (al.add (i * 8)) = some (.string (N.l i).nm) ∧ w'.cell? ⟨(al.add (i * 8)).block, (al.add (i * 8)).off + 1, none⟩ = some (.int .i64 (N.l i).kind) ∧ w'.cell? ⟨(al.add (i * 8)).block, (al.add (i * 8)).off + 2, none⟩ = some (.string (N.l i).fr) ∧ w'.cell? ⟨(al.add (i * 8)).block, (al.add (i * 8)).off + 3, none⟩ = some (.string (N.l i).tw) ∧ w'.cell? ⟨(al.add (i * 8)).block, (al.add (i * 8)).off + 4, none⟩ = some (.int .i64 (N.l i).sill) ∧ w'.cell? ⟨(al.add (i * 8)).block, (al.add (i * 8)).off + 5, none⟩ = some (.int .i64 (N.l i).rate) ∧ w'.cell? ⟨(al.add (i * 8)).block, (al.add (i * 8)).off + 6, none⟩ = some (.int .i64 (N.l i).fac) ∧ w'.cell? ⟨(al.add (i * 8)).block, (al.add (i * 8)).off + 7, none⟩ = some (.int .i64 (N.l i).lift)) (by kernel_rfl) (by with_reducible exact Nro.cells HE0.out) (fun hHeld => ?_)
        refine wpLate_take 0 [0, 16] (v := ?_) rfl (by kernel_rfl) (by kernel_rfl) (by kernel_rfl) (fun _ _ _ h => h) (by kernel_rfl) (by kernel_rfl) (Or.inl ⟨by rfl, ?_⟩) hHeld ?_
        rotate_left
        · intro w hSw
          (try dsimp only at hSw)
          go_simp
          (try with_reducible rfl)
        (try simp only [Act.put, List.setIfInBounds_toArray, List.set_cons_zero, List.set_cons_succ])
        refine wpLate_take 1 [1, 16] (v := ?_) rfl (by kernel_rfl) (by kernel_rfl) (by kernel_rfl) (fun _ _ _ h => h) (by kernel_rfl) (by kernel_rfl) (Or.inl ⟨by rfl, ?_⟩) hHeld ?_
        rotate_left
        · intro w hSw
          (try dsimp only at hSw)
          go_simp
          (try with_reducible rfl)
        (try simp only [Act.put, List.setIfInBounds_toArray, List.set_cons_zero, List.set_cons_succ])
        refine wpLate_take 2 [2, 16] (v := ?_) rfl (by kernel_rfl) (by kernel_rfl) (by kernel_rfl) (fun _ _ _ h => h) (by kernel_rfl) (by kernel_rfl) (Or.inl ⟨by rfl, ?_⟩) hHeld ?_
        rotate_left
        · intro w hSw
          (try dsimp only at hSw)
          go_simp
          (try with_reducible rfl)
        (try simp only [Act.put, List.setIfInBounds_toArray, List.set_cons_zero, List.set_cons_succ])
        refine wpLate_take 3 [3, 16] (v := ?_) rfl (by kernel_rfl) (by kernel_rfl) (by kernel_rfl) (fun _ _ _ h => h) (by kernel_rfl) (by kernel_rfl) (Or.inl ⟨by rfl, ?_⟩) hHeld ?_
        rotate_left
        · intro w hSw
          (try dsimp only at hSw)
          go_simp
          (try with_reducible rfl)
        (try simp only [Act.put, List.setIfInBounds_toArray, List.set_cons_zero, List.set_cons_succ])
        refine wpLate_take 4 [4, 16] (v := ?_) rfl (by kernel_rfl) (by kernel_rfl) (by kernel_rfl) (fun _ _ _ h => h) (by kernel_rfl) (by kernel_rfl) (Or.inl ⟨by rfl, ?_⟩) hHeld ?_
        rotate_left
        · intro w hSw
          (try dsimp only at hSw)
          go_simp
          (try with_reducible rfl)
        (try simp only [Act.put, List.setIfInBounds_toArray, List.set_cons_zero, List.set_cons_succ])
        refine wpLate_take 5 [5, 16] (v := ?_) rfl (by kernel_rfl) (by kernel_rfl) (by kernel_rfl) (fun _ _ _ h => h) (by kernel_rfl) (by kernel_rfl) (Or.inl ⟨by rfl, ?_⟩) hHeld ?_
        rotate_left
        · intro w hSw
          (try dsimp only at hSw)
          go_simp
          (try with_reducible rfl)
        (try simp only [Act.put, List.setIfInBounds_toArray, List.set_cons_zero, List.set_cons_succ])
        refine wpLate_take 6 [6, 16] (v := ?_) rfl (by kernel_rfl) (by kernel_rfl) (by kernel_rfl) (fun _ _ _ h => h) (by kernel_rfl) (by kernel_rfl) (Or.inl ⟨by rfl, ?_⟩) hHeld ?_
        rotate_left
        · intro w hSw
          (try dsimp only at hSw)
          go_simp
          (try with_reducible rfl)
        (try simp only [Act.put, List.setIfInBounds_toArray, List.set_cons_zero, List.set_cons_succ])
        refine wpLate_take 7 [7, 16] (v := ?_) rfl (by kernel_rfl) (by kernel_rfl) (by kernel_rfl) (fun _ _ _ h => h) (by kernel_rfl) (by kernel_rfl) (Or.inl ⟨by rfl, ?_⟩) hHeld ?_
        rotate_left
        · intro w hSw
          (try dsimp only at hSw)
          go_simp
          (try with_reducible rfl)
        (try simp only [Act.put, List.setIfInBounds_toArray, List.set_cons_zero, List.set_cons_succ])
        refine wpLate_take 8 [8, 16] (v := ?_) rfl (by kernel_rfl) (by kernel_rfl) (by kernel_rfl) (fun _ _ _ h => h) (by kernel_rfl) (by kernel_rfl) (Or.inl ⟨by rfl, ?_⟩) hHeld ?_
        rotate_left
        · intro w hSw
          (try dsimp only at hSw)
          go_simp
          (try with_reducible rfl)
        (try simp only [Act.put, List.setIfInBounds_toArray, List.set_cons_zero, List.set_cons_succ])
        refine wpLate_take 9 [9, 16] (v := ?_) rfl (by kernel_rfl) (by kernel_rfl) (by kernel_rfl) (fun _ _ _ h => h) (by kernel_rfl) (by kernel_rfl) (Or.inl ⟨by rfl, ?_⟩) hHeld ?_
        rotate_left
        · intro w hSw
          (try dsimp only at hSw)
          go_simp
          (try with_reducible rfl)
        (try simp only [Act.put, List.setIfInBounds_toArray, List.set_cons_zero, List.set_cons_succ])
        refine wpLate_take 10 [10, 16] (v := ?_) rfl (by kernel_rfl) (by kernel_rfl) (by kernel_rfl) (fun _ _ _ h => h) (by kernel_rfl) (by kernel_rfl) (Or.inl ⟨by rfl, ?_⟩) hHeld ?_
        rotate_left
        · intro w hSw
          (try dsimp only at hSw)
          go_simp
          (try with_reducible rfl)
        (try simp only [Act.put, List.setIfInBounds_toArray, List.set_cons_zero, List.set_cons_succ])
        refine wpLate_take 11 [11, 16] (v := ?_) rfl (by kernel_rfl) (by kernel_rfl) (by kernel_rfl) (fun _ _ _ h => h) (by kernel_rfl) (by kernel_rfl) (Or.inl ⟨by rfl, ?_⟩) hHeld ?_
        rotate_left
        · intro w hSw
          (try dsimp only at hSw)
          go_simp
          (try with_reducible rfl)
        (try simp only [Act.put, List.setIfInBounds_toArray, List.set_cons_zero, List.set_cons_succ])
        refine wpLate_take 12 [12, 16] (v := ?_) rfl (by kernel_rfl) (by kernel_rfl) (by kernel_rfl) (fun _ _ _ h => h) (by kernel_rfl) (by kernel_rfl) (Or.inl ⟨by rfl, ?_⟩) hHeld ?_
        rotate_left
        · intro w hSw
          (try dsimp only at hSw)
          go_simp
          (try with_reducible rfl)
        (try simp only [Act.put, List.setIfInBounds_toArray, List.set_cons_zero, List.set_cons_succ])
        refine wpLate_take 13 [13, 16] (v := ?_) rfl (by kernel_rfl) (by kernel_rfl) (by kernel_rfl) (fun _ _ _ h => h) (by kernel_rfl) (by kernel_rfl) (Or.inl ⟨by rfl, ?_⟩) hHeld ?_
        rotate_left
        · intro w hSw
          (try dsimp only at hSw)
          go_simp
          (try with_reducible rfl)
        (try simp only [Act.put, List.setIfInBounds_toArray, List.set_cons_zero, List.set_cons_succ])
        refine wpLate_take 14 [14, 16] (v := ?_) rfl (by kernel_rfl) (by kernel_rfl) (by kernel_rfl) (fun _ _ _ h => h) (by kernel_rfl) (by kernel_rfl) (Or.inl ⟨by rfl, ?_⟩) hHeld ?_
        rotate_left
        · intro w hSw
          (try dsimp only at hSw)
          go_simp
          (try with_reducible rfl)
        (try simp only [Act.put, List.setIfInBounds_toArray, List.set_cons_zero, List.set_cons_succ])
        refine wpLate_one 15 (by kernel_rfl) rfl (fun K hK => ?_)
        go_simp
        (go_at_call 43; (with_reducible refine (HMV.out _ _ _ HE0.out.n.a HE0.out.o.wt).mono ?_); rintro e w5 ⟨A5, c5, M5, d5, rfl, hx5, hy5, hb5⟩; have D5 := HE0.out.below hb5; obtain ⟨z0, z1, z2⟩ := D5.o.b.c3; have f0 := Bk.fz D5.o.b 0; have f1 := Bk.fz D5.o.b 1; have f2 := Bk.fz D5.o.b 2)
        clear hHeld
        refine hK.out _ _ (by with_reducible exact Nro.cells D5) (fun hHeld => ?_)
        clear hK K
        (try simp only [Act.put, List.setIfInBounds_toArray, List.set_cons_zero, List.set_cons_succ])
        clear hHeld
        refine wpLate_last 16 rfl (by kernel_rfl) (by kernel_rfl) rfl (fun K hK => ?_)
        go_simp
        refine hK.out _ _ ?_
        clear hK K
        (try simp only [Act.put, List.setIfInBounds_toArray, List.set_cons_zero, List.set_cons_succ])
        have hgl : gb < wr.drew.heap.size := HE0.out.o.b.lt
        have hz5 : wr.drew.heap.size ≤ w5.heap.size := hb5.size
        have HG0 := hid HGB.out
        have O6 : Ro (((w5.setCell ⟨gb, 0, none⟩ (.int .i64 W.min)).setCell ⟨gb, 1, none⟩ (.slice A5 N.n c5)).setCell ⟨gb, 2, none⟩ (.slice M5 N.k d5)) gb W0.heap.size N W.min (stX N W.min W.Y W.X (i + 1)) W.Y A5 c5 M5 d5 := ⟨fill3 D5.o.b, by rw [stX_succ, hr0.out]; exact own_base (own_setBox hx5 hgl) HBi.out.size, own_base (own_setBox hy5 hgl) HBi.out.size⟩
        have HB6 := hid (bset3 (u0 := .int .i64 W.min) (u1 := .slice A5 N.n c5) (u2 := .slice M5 N.k d5) (HBi.out.drew.trans (hb5.mono HBi.out.size)) HG0.out)
        have Own6 := hid (own_heap (own_below (Own1.out.drew) hb5) (w' := ((w5.setCell ⟨gb, 0, none⟩ (.int .i64 W.min)).setCell ⟨gb, 1, none⟩ (.slice A5 N.n c5)).setCell ⟨gb, 2, none⟩ (.slice M5 N.k d5)) (fun k hk => by
          have := Hfb.out k hk
          exact ((Below.heap_setCell _ _ _ _ (show k ≠ gb by omega)).trans (Below.heap_setCell _ _ _ _ (show k ≠ gb by omega))).trans (Below.heap_setCell _ _ _ _ (show k ≠ gb by omega))))
        have HS6 := hid (show ∀ k, u7.ownBlock = some k → (Value.slice A5 N.n c5).ownBlock ≠ some k from fun k hk e => by
          have h1 := (Own1.out.drew.lt k hk).2
          have h2 := (World.ownsRow.lt hx5 k e).1
          omega)
        clear hx5 hy5 hb5 z0 z1 z2 f0 f1 f2 D5 HE0 HMV D Own1 HBi HSep
        generalize ((w5.setCell ⟨gb, 0, none⟩ (.int .i64 W.min)).setCell ⟨gb, 1, none⟩ (.slice A5 N.n c5)).setCell ⟨gb, 2, none⟩ (.slice M5 N.k d5) = w6 at *
        have hB6s := HB6.out.size
        have hi9 := Hs.out.k
        go_wp2_with (at_builtin; (refine wpList_append_lies _ (by rfl) _ _ _ (by rfl) W0.heap.size 3 i0 (.int .i64 0) 1 8 Try.underlying27 hi0 hz0 hz1 hz2 rfl (by decide) u7 i _ (by rfl) (Own6.out.alloc _) ⟨w6.heap.size, 0, none⟩ 1 1 [.int .i64 0] (by rfl) rfl (cell_one_new _ _ _) (one_cell (.int .i64 0) rfl) (by decide) (by unfold maxLen; omega) (by omega) (by simp; omega) _ rfl ?_; intro g7 cap7 w7 hown7 hgrow7 hat7 hlt7))
        have hb7 := (HB6.out.alloc HB6.out.size (.cells #[.int .i64 0] 3)).grown hgrow7 (by simp; omega) (fun k hk => (Own6.out.lt k hk).1)
        have hOA := O6.below (alo (o := .cells #[.int .i64 0] 3))
        have hk7 : ∀ k, (Value.slice (some ⟨g7, 0, none⟩) (i + 1) cap7).ownBlock = some k → gb < k ∧ (Value.slice A5 N.n c5).ownBlock ≠ some k := fun k hk => by
          have e : g7 = k := by simpa [Value.ownBlock] using hk
          subst e
          rcases hat7 with h | h
          · exact ⟨Hfb.out _ h, HS6.out _ h⟩
          · refine ⟨by have := O6.b.lt; simp at h; omega, fun e => ?_⟩
            have := (O6.x.lt _ e).2
            simp at h
            omega
        have O7 : Ro w7 gb W0.heap.size N W.min (stX N W.min W.Y W.X (i + 1)) W.Y A5 c5 M5 d5 := ⟨(hgrow7.block gb hOA.b.lt (fun e => by have := Hfb.out gb e.symm; omega)).trans hOA.b, hOA.x.kept hgrow7 (by
            cases hub : (Value.slice A5 N.n c5).ownBlock with
            | none => exact .inl rfl
            | some k => exact .inr fun e => HS6.out k e.symm hub), hOA.y.kept hgrow7 (ty_ne hOA.y (Own6.out.alloc (.cells #[.int .i64 0] 3)) (by decide))⟩
        rw [← hr0.out, ints_snoc (fwX N W.min W.Y W.X) i] at hown7
        have HO7 := hid hown7
        have HB7 := hid hb7
        clear hb7 hown7 hgrow7 hat7 hlt7 hOA O6 Own6
        go_wp2
        go_roundw
        case rel => exact ⟨i + 1, by omega, by go_num, ⟨A5, c5, M5, d5, O7, fun k hk => (hk7 k hk).2⟩, HO7.out, fun k hk => (hk7 k hk).1, HB7.out⟩
        case measure => simp [intOf]; omega
      case true =>
        rw [ho] at hy
        obtain ⟨r, hr⟩ : ∃ r, fwX N W.min W.Y W.X i = r := ⟨_, rfl⟩
        have hr0 := hid hr
        have hf : flo N W.min (stX N W.min W.Y W.X i) true i = r := by rw [← hr]; unfold fwX; rw [ho]
        have Hr := hid (show -1000000000 ≤ r ∧ r ≤ 1000000000 from by rw [← hr]; exact HFw.out.2)
        have HAC := hid (fun (V : World) (B0 B : Nat) (h : Nt V B0 N) (k : Wt V B (Wr N W.min A c M d (stX N W.min W.Y W.X i) W.Y)) => (show Calls Try.prog 42 #[.agg #[.slice N.A N.n N.c, .slice N.M N.m N.d, .slice (some al) N.k N.e], .agg #[.int .i64 W.min, .slice A N.n c, .slice M N.k d], .agg #[.string (N.l i).nm, .int .i64 (N.l i).kind, .string (N.l i).fr, .string (N.l i).tw, .int .i64 (N.l i).sill, .int .i64 (N.l i).rate, .int .i64 (N.l i).fac, .int .i64 (N.l i).lift]] V fun e w' => e = .returned (.int .i64 r) ∧ Below V.heap.size V w' from Act_floA (W := Wr N W.min A c M d (stX N W.min W.Y W.X i) W.Y) HK.out hf (hid ⟨HFi.out.c, HFi.out.t0, HFi.out.t1, rfl, rfl, HFi.out.l⟩) Hs h k hlt))
        clear hr hf HFw
        go_wp2_with fail
        clear x0 x1 x2 y0 y1 y2 hy
        have HD0 := hid (D.below dr0)
        go_region_held3 (fun w' => w'.cell? ⟨g, 0, none⟩ = some (.slice N.A N.n N.c) ∧ w'.cell? ⟨g, 1, none⟩ = some (.slice N.M N.m N.d) ∧ w'.cell? ⟨g, 2, none⟩ = some (.slice (some al) N.k N.e) ∧ w'.cell? ⟨gb, 0, none⟩ = some (.int .i64 W.min) ∧ w'.cell? ⟨gb, 1, none⟩ = some (.slice A N.n c) ∧ w'.cell? ⟨gb, 2, none⟩ = some (.slice M N.k d) ∧ w'.cell? (al.add (i * 8)) = some (.string (N.l i).nm) ∧ w'.cell? ⟨(al.add (i * 8)).block, (al.add (i * 8)).off + 1, none⟩ = some (.int .i64 (N.l i).kind) ∧ w'.cell? ⟨(al.add (i * 8)).block, (al.add (i * 8)).off + 2, none⟩ = some (.string (N.l i).fr) ∧ w'.cell? ⟨(al.add (i * 8)).block, (al.add (i * 8)).off + 3, none⟩ = some (.string (N.l i).tw) ∧ w'.cell? ⟨(al.add (i * 8)).block, (al.add (i * 8)).off + 4, none⟩ = some (.int .i64 (N.l i).sill) ∧ w'.cell? ⟨(al.add (i * 8)).block, (al.add (i * 8)).off + 5, none⟩ = some (.int .i64 (N.l i).rate) ∧ w'.cell? ⟨(al.add (i * 8)).block, (al.add (i * 8)).off + 6, none⟩ = some (.int .i64 (N.l i).fac) ∧ w'.cell? ⟨(al.add (i * 8)).block, (al.add (i * 8)).off + 7, none⟩ = some (.int .i64 (N.l i).lift)) (first | with_reducible exact Nro.cells HD0.out | with_reducible exact Nro.cells D1) (first
          | (go_at_call 42; (with_reducible refine (HAC.out _ _ _ HD0.out.n.a HD0.out.o.wt).mono ?_); rintro e w4 ⟨rfl, hb4⟩; have D1 := HD0.out.below hb4))
        have HB4 := hid (HBi.out.drew.trans (hb4.mono HBi.out.size))
        have Own4 := hid (own_below (Own1.out.drew) hb4)
        clear hb4 HD0 HAC D Own1
        obtain ⟨x0, x1, x2, x3, x4, x5, x6, x7, x8, x9, xa, xb, xc, xd⟩ := D1.cells
        go_wp2_with fail
        clear x0 x1 x2 x3 x4 x5 x6 x7 x8 x9 xa xb xc xd
        have HMV := hid (fun (V : World) (B0 B : Nat) (h : Nt V B0 N) (k : Wt V B (Wr N W.min A c M d (stX N W.min W.Y W.X i) W.Y)) => (show Calls Try.prog 43 #[.agg #[.slice N.A N.n N.c, .slice N.M N.m N.d, .slice (some al) N.k N.e], .agg #[.int .i64 W.min, .slice A N.n c, .slice M N.k d], .string (N.l i).fr, .string (N.l i).tw, .int .i64 r] V fun e w' => ∃ A5 c5 M5 d5, e = .returned (.agg #[.int .i64 W.min, .slice A5 N.n c5, .slice M5 N.k d5]) ∧ w'.ownsRow V.heap.size 3 1 (.slice A5 N.n c5) N.n (ints (mvX N (stX N W.min W.Y W.X i) i r) N.n) ∧ w'.ownsRow V.heap.size 4 1 (.slice M5 N.k d5) N.k (bools W.Y N.k) ∧ Below V.heap.size V w' from moved_isA (W := Wr N W.min A c M d (stX N W.min W.Y W.X i) W.Y) HK.out (hid ⟨HFi.out.c, HFi.out.t0, HFi.out.t1, rfl, rfl, HFi.out.l⟩) Hs h k hlt Hr.out.1 Hr.out.2))
        have HE0 := hid (D1.below dr0)
        refine wp_region_late 16 (fun w' => w'.cell? ⟨g, 0, none⟩ = some (.slice N.A N.n N.c) ∧ w'.cell? ⟨g, 1, none⟩ = some (.slice N.M N.m N.d) ∧ w'.cell? ⟨g, 2, none⟩ = some (.slice (some al) N.k N.e) ∧ w'.cell? ⟨gb, 0, none⟩ = some (.int .i64 W.min) ∧ w'.cell? ⟨gb, 1, none⟩ = some (.slice A N.n c) ∧ w'.cell? ⟨gb, 2, none⟩ = some (.slice M N.k d) ∧ w'.cell? (al.add (i * 8)) = some (.string (N.l i).nm) ∧ w'.cell? ⟨(al.add (i * 8)).block, (al.add (i * 8)).off + 1, none⟩ = some (.int .i64 (N.l i).kind) ∧ w'.cell? ⟨(al.add (i * 8)).block, (al.add (i * 8)).off + 2, none⟩ = some (.string (N.l i).fr) ∧ w'.cell? ⟨(al.add (i * 8)).block, (al.add (i * 8)).off + 3, none⟩ = some (.string (N.l i).tw) ∧ w'.cell? ⟨(al.add (i * 8)).block, (al.add (i * 8)).off + 4, none⟩ = some (.int .i64 (N.l i).sill) ∧ w'.cell? ⟨(al.add (i * 8)).block, (al.add (i * 8)).off + 5, none⟩ = some (.int .i64 (N.l i).rate) ∧ w'.cell? ⟨(al.add (i * 8)).block, (al.add (i * 8)).off + 6, none⟩ = some (.int .i64 (N.l i).fac) ∧ w'.cell? ⟨(al.add (i * 8)).block, (al.add (i * 8)).off + 7, none⟩ = some (.int .i64 (N.l i).lift)) (by kernel_rfl) (by with_reducible exact Nro.cells HE0.out) (fun hHeld => ?_)
        refine wpLate_take 0 [0, 16] (v := ?_) rfl (by kernel_rfl) (by kernel_rfl) (by kernel_rfl) (fun _ _ _ h => h) (by kernel_rfl) (by kernel_rfl) (Or.inl ⟨by rfl, ?_⟩) hHeld ?_
        rotate_left
        · intro w hSw
          (try dsimp only at hSw)
          go_simp
          (try with_reducible rfl)
        (try simp only [Act.put, List.setIfInBounds_toArray, List.set_cons_zero, List.set_cons_succ])
        refine wpLate_take 1 [1, 16] (v := ?_) rfl (by kernel_rfl) (by kernel_rfl) (by kernel_rfl) (fun _ _ _ h => h) (by kernel_rfl) (by kernel_rfl) (Or.inl ⟨by rfl, ?_⟩) hHeld ?_
        rotate_left
        · intro w hSw
          (try dsimp only at hSw)
          go_simp
          (try with_reducible rfl)
        (try simp only [Act.put, List.setIfInBounds_toArray, List.set_cons_zero, List.set_cons_succ])
        refine wpLate_take 2 [2, 16] (v := ?_) rfl (by kernel_rfl) (by kernel_rfl) (by kernel_rfl) (fun _ _ _ h => h) (by kernel_rfl) (by kernel_rfl) (Or.inl ⟨by rfl, ?_⟩) hHeld ?_
        rotate_left
        · intro w hSw
          (try dsimp only at hSw)
          go_simp
          (try with_reducible rfl)
        (try simp only [Act.put, List.setIfInBounds_toArray, List.set_cons_zero, List.set_cons_succ])
        refine wpLate_take 3 [3, 16] (v := ?_) rfl (by kernel_rfl) (by kernel_rfl) (by kernel_rfl) (fun _ _ _ h => h) (by kernel_rfl) (by kernel_rfl) (Or.inl ⟨by rfl, ?_⟩) hHeld ?_
        rotate_left
        · intro w hSw
          (try dsimp only at hSw)
          go_simp
          (try with_reducible rfl)
        (try simp only [Act.put, List.setIfInBounds_toArray, List.set_cons_zero, List.set_cons_succ])
        refine wpLate_take 4 [4, 16] (v := ?_) rfl (by kernel_rfl) (by kernel_rfl) (by kernel_rfl) (fun _ _ _ h => h) (by kernel_rfl) (by kernel_rfl) (Or.inl ⟨by rfl, ?_⟩) hHeld ?_
        rotate_left
        · intro w hSw
          (try dsimp only at hSw)
          go_simp
          (try with_reducible rfl)
        (try simp only [Act.put, List.setIfInBounds_toArray, List.set_cons_zero, List.set_cons_succ])
        refine wpLate_take 5 [5, 16] (v := ?_) rfl (by kernel_rfl) (by kernel_rfl) (by kernel_rfl) (fun _ _ _ h => h) (by kernel_rfl) (by kernel_rfl) (Or.inl ⟨by rfl, ?_⟩) hHeld ?_
        rotate_left
        · intro w hSw
          (try dsimp only at hSw)
          go_simp
          (try with_reducible rfl)
        (try simp only [Act.put, List.setIfInBounds_toArray, List.set_cons_zero, List.set_cons_succ])
        refine wpLate_take 6 [6, 16] (v := ?_) rfl (by kernel_rfl) (by kernel_rfl) (by kernel_rfl) (fun _ _ _ h => h) (by kernel_rfl) (by kernel_rfl) (Or.inl ⟨by rfl, ?_⟩) hHeld ?_
        rotate_left
        · intro w hSw
          (try dsimp only at hSw)
          go_simp
          (try with_reducible rfl)
        (try simp only [Act.put, List.setIfInBounds_toArray, List.set_cons_zero, List.set_cons_succ])
        refine wpLate_take 7 [7, 16] (v := ?_) rfl (by kernel_rfl) (by kernel_rfl) (by kernel_rfl) (fun _ _ _ h => h) (by kernel_rfl) (by kernel_rfl) (Or.inl ⟨by rfl, ?_⟩) hHeld ?_
        rotate_left
        · intro w hSw
          (try dsimp only at hSw)
          go_simp
          (try with_reducible rfl)
        (try simp only [Act.put, List.setIfInBounds_toArray, List.set_cons_zero, List.set_cons_succ])
        refine wpLate_take 8 [8, 16] (v := ?_) rfl (by kernel_rfl) (by kernel_rfl) (by kernel_rfl) (fun _ _ _ h => h) (by kernel_rfl) (by kernel_rfl) (Or.inl ⟨by rfl, ?_⟩) hHeld ?_
        rotate_left
        · intro w hSw
          (try dsimp only at hSw)
          go_simp
          (try with_reducible rfl)
        (try simp only [Act.put, List.setIfInBounds_toArray, List.set_cons_zero, List.set_cons_succ])
        refine wpLate_take 9 [9, 16] (v := ?_) rfl (by kernel_rfl) (by kernel_rfl) (by kernel_rfl) (fun _ _ _ h => h) (by kernel_rfl) (by kernel_rfl) (Or.inl ⟨by rfl, ?_⟩) hHeld ?_
        rotate_left
        · intro w hSw
          (try dsimp only at hSw)
          go_simp
          (try with_reducible rfl)
        (try simp only [Act.put, List.setIfInBounds_toArray, List.set_cons_zero, List.set_cons_succ])
        refine wpLate_take 10 [10, 16] (v := ?_) rfl (by kernel_rfl) (by kernel_rfl) (by kernel_rfl) (fun _ _ _ h => h) (by kernel_rfl) (by kernel_rfl) (Or.inl ⟨by rfl, ?_⟩) hHeld ?_
        rotate_left
        · intro w hSw
          (try dsimp only at hSw)
          go_simp
          (try with_reducible rfl)
        (try simp only [Act.put, List.setIfInBounds_toArray, List.set_cons_zero, List.set_cons_succ])
        refine wpLate_take 11 [11, 16] (v := ?_) rfl (by kernel_rfl) (by kernel_rfl) (by kernel_rfl) (fun _ _ _ h => h) (by kernel_rfl) (by kernel_rfl) (Or.inl ⟨by rfl, ?_⟩) hHeld ?_
        rotate_left
        · intro w hSw
          (try dsimp only at hSw)
          go_simp
          (try with_reducible rfl)
        (try simp only [Act.put, List.setIfInBounds_toArray, List.set_cons_zero, List.set_cons_succ])
        refine wpLate_take 12 [12, 16] (v := ?_) rfl (by kernel_rfl) (by kernel_rfl) (by kernel_rfl) (fun _ _ _ h => h) (by kernel_rfl) (by kernel_rfl) (Or.inl ⟨by rfl, ?_⟩) hHeld ?_
        rotate_left
        · intro w hSw
          (try dsimp only at hSw)
          go_simp
          (try with_reducible rfl)
        (try simp only [Act.put, List.setIfInBounds_toArray, List.set_cons_zero, List.set_cons_succ])
        refine wpLate_take 13 [13, 16] (v := ?_) rfl (by kernel_rfl) (by kernel_rfl) (by kernel_rfl) (fun _ _ _ h => h) (by kernel_rfl) (by kernel_rfl) (Or.inl ⟨by rfl, ?_⟩) hHeld ?_
        rotate_left
        · intro w hSw
          (try dsimp only at hSw)
          go_simp
          (try with_reducible rfl)
        (try simp only [Act.put, List.setIfInBounds_toArray, List.set_cons_zero, List.set_cons_succ])
        refine wpLate_take 14 [14, 16] (v := ?_) rfl (by kernel_rfl) (by kernel_rfl) (by kernel_rfl) (fun _ _ _ h => h) (by kernel_rfl) (by kernel_rfl) (Or.inl ⟨by rfl, ?_⟩) hHeld ?_
        rotate_left
        · intro w hSw
          (try dsimp only at hSw)
          go_simp
          (try with_reducible rfl)
        (try simp only [Act.put, List.setIfInBounds_toArray, List.set_cons_zero, List.set_cons_succ])
        refine wpLate_one 15 (by kernel_rfl) rfl (fun K hK => ?_)
        go_simp
        (go_at_call 43; (with_reducible refine (HMV.out _ _ _ HE0.out.n.a HE0.out.o.wt).mono ?_); rintro e w5 ⟨A5, c5, M5, d5, rfl, hx5, hy5, hb5⟩; have D5 := HE0.out.below hb5; obtain ⟨z0, z1, z2⟩ := D5.o.b.c3; have f0 := Bk.fz D5.o.b 0; have f1 := Bk.fz D5.o.b 1; have f2 := Bk.fz D5.o.b 2)
        clear hHeld
        refine hK.out _ _ (by with_reducible exact Nro.cells D5) (fun hHeld => ?_)
        clear hK K
        (try simp only [Act.put, List.setIfInBounds_toArray, List.set_cons_zero, List.set_cons_succ])
        clear hHeld
        refine wpLate_last 16 rfl (by kernel_rfl) (by kernel_rfl) rfl (fun K hK => ?_)
        go_simp
        refine hK.out _ _ ?_
        clear hK K
        (try simp only [Act.put, List.setIfInBounds_toArray, List.set_cons_zero, List.set_cons_succ])
        have hgl : gb < w4.drew.heap.size := HE0.out.o.b.lt
        have hz5 : w4.drew.heap.size ≤ w5.heap.size := hb5.size
        have HG0 := hid HGB.out
        have O6 : Ro (((w5.setCell ⟨gb, 0, none⟩ (.int .i64 W.min)).setCell ⟨gb, 1, none⟩ (.slice A5 N.n c5)).setCell ⟨gb, 2, none⟩ (.slice M5 N.k d5)) gb W0.heap.size N W.min (stX N W.min W.Y W.X (i + 1)) W.Y A5 c5 M5 d5 := ⟨fill3 D5.o.b, by rw [stX_succ, hr0.out]; exact own_base (own_setBox hx5 hgl) HB4.out.size, own_base (own_setBox hy5 hgl) HB4.out.size⟩
        have HB6 := hid (bset3 (u0 := .int .i64 W.min) (u1 := .slice A5 N.n c5) (u2 := .slice M5 N.k d5) (HB4.out.drew.trans (hb5.mono HB4.out.size)) HG0.out)
        have Own6 := hid (own_heap (own_below (Own4.out.drew) hb5) (w' := ((w5.setCell ⟨gb, 0, none⟩ (.int .i64 W.min)).setCell ⟨gb, 1, none⟩ (.slice A5 N.n c5)).setCell ⟨gb, 2, none⟩ (.slice M5 N.k d5)) (fun k hk => by
          have := Hfb.out k hk
          exact ((Below.heap_setCell _ _ _ _ (show k ≠ gb by omega)).trans (Below.heap_setCell _ _ _ _ (show k ≠ gb by omega))).trans (Below.heap_setCell _ _ _ _ (show k ≠ gb by omega))))
        have HS6 := hid (show ∀ k, u7.ownBlock = some k → (Value.slice A5 N.n c5).ownBlock ≠ some k from fun k hk e => by
          have h1 := (Own4.out.drew.lt k hk).2
          have h2 := (World.ownsRow.lt hx5 k e).1
          omega)
        clear hx5 hy5 hb5 z0 z1 z2 f0 f1 f2 D5 HE0 HMV D1 Own4 HB4 HSep
        generalize ((w5.setCell ⟨gb, 0, none⟩ (.int .i64 W.min)).setCell ⟨gb, 1, none⟩ (.slice A5 N.n c5)).setCell ⟨gb, 2, none⟩ (.slice M5 N.k d5) = w6 at *
        have hB6s := HB6.out.size
        have hi9 := Hs.out.k
        go_wp2_with (at_builtin; (refine wpList_append_lies _ (by rfl) _ _ _ (by rfl) W0.heap.size 3 i0 (.int .i64 0) 1 8 Try.underlying27 hi0 hz0 hz1 hz2 rfl (by decide) u7 i _ (by rfl) (Own6.out.alloc _) ⟨w6.heap.size, 0, none⟩ 1 1 [.int .i64 r] (by rfl) rfl (cell_one_new _ _ _) (one_cell (.int .i64 r) rfl) (by decide) (by unfold maxLen; omega) (by omega) (by simp; omega) _ rfl ?_; intro g7 cap7 w7 hown7 hgrow7 hat7 hlt7))
        have hb7 := (HB6.out.alloc HB6.out.size (.cells #[.int .i64 r] 3)).grown hgrow7 (by simp; omega) (fun k hk => (Own6.out.lt k hk).1)
        have hOA := O6.below (alo (o := .cells #[.int .i64 r] 3))
        have hk7 : ∀ k, (Value.slice (some ⟨g7, 0, none⟩) (i + 1) cap7).ownBlock = some k → gb < k ∧ (Value.slice A5 N.n c5).ownBlock ≠ some k := fun k hk => by
          have e : g7 = k := by simpa [Value.ownBlock] using hk
          subst e
          rcases hat7 with h | h
          · exact ⟨Hfb.out _ h, HS6.out _ h⟩
          · refine ⟨by have := O6.b.lt; simp at h; omega, fun e => ?_⟩
            have := (O6.x.lt _ e).2
            simp at h
            omega
        have O7 : Ro w7 gb W0.heap.size N W.min (stX N W.min W.Y W.X (i + 1)) W.Y A5 c5 M5 d5 := ⟨(hgrow7.block gb hOA.b.lt (fun e => by have := Hfb.out gb e.symm; omega)).trans hOA.b, hOA.x.kept hgrow7 (by
            cases hub : (Value.slice A5 N.n c5).ownBlock with
            | none => exact .inl rfl
            | some k => exact .inr fun e => HS6.out k e.symm hub), hOA.y.kept hgrow7 (ty_ne hOA.y (Own6.out.alloc (.cells #[.int .i64 r] 3)) (by decide))⟩
        rw [← hr0.out, ints_snoc (fwX N W.min W.Y W.X) i] at hown7
        have HO7 := hid hown7
        have HB7 := hid hb7
        clear hb7 hown7 hgrow7 hat7 hlt7 hOA O6 Own6
        go_wp2
        go_roundw
        case rel => exact ⟨i + 1, by omega, by go_num, ⟨A5, c5, M5, d5, O7, fun k hk => (hk7 k hk).2⟩, HO7.out, fun k hk => (hk7 k hk).1, HB7.out⟩
        case measure => simp [intOf]; omega
    · have dlt : decide ((i : Int) < (N.k : Int)) = false := decide_eq_false (by omega)
      obtain rfl : i = N.k := by omega
      obtain ⟨Af, cf, rfl⟩ := own_slice Own1.out
      have hlg : g + 1 + 1 < W0.heap.size := by have := Hs0.out; omega
      have hGB := HGB.out
      have hzz : w.heap.size ≤ W0.heap.size := HB0.out.size
      have t0 : 0 ≤ W.min := HF.out.t0
      have t1 : W.min ≤ 1000000 := HF.out.t1
      have hw : IntKind.i64.wrap (W.min + 1) = W.min + 1 := IntWalk.i64_in _ (by omega)
      have Om := Oi.putMin (W.min + 1)
      have HBm := hid (HBi.out.setCell (p := ⟨gb, 0, none⟩) hGB (.int .i64 (W.min + 1)))
      have Zm : Bk (wr.setCell ⟨gb, 0, none⟩ (.int .i64 (W.min + 1))) (g + 1 + 1) _ := bk_set Zi (show g + 1 + 1 ≠ gb by omega)
      have hown' := own_heap Own1.out (w' := (wr.setCell ⟨gb, 0, none⟩ (.int .i64 (W.min + 1)))) (fun k hk => Below.heap_setCell _ _ _ _ (show k ≠ gb from by have := Hfb.out k hk; omega))
      have OX := hid (own_base (own_setBox (u0 := .int .i64 (W.min + 1)) (u1 := .slice A N.n c) (u2 := .slice M N.k d) Om.x hlg) hzz)
      have OY := hid (own_base (own_setBox (u0 := .int .i64 (W.min + 1)) (u1 := .slice A N.n c) (u2 := .slice M N.k d) Om.y hlg) hzz)
      have OV := hid (own_base (own_setBox (u0 := .int .i64 (W.min + 1)) (u1 := .slice A N.n c) (u2 := .slice M N.k d) hown' hlg) hzz)
      obtain ⟨x0, x1, x2⟩ := Ki.cells
      obtain ⟨y0, y1, y2⟩ := Oi.b.c3
      obtain ⟨z0, z1, z2⟩ := Om.b.c3
      obtain ⟨r0, r1, r2⟩ := Zm.c3
      have p0 := Bk.fz Oi.b 0
      have f0 := Bk.fz Zm 0
      have f1 := Bk.fz Zm 1
      have f2 := Bk.fz Zm 2
      clear Vi hown' Ki Oi Om Zi
      go_wp2
      have RZ := Zm.put_all (.int .i64 (W.min + 1)) (.slice A N.n c) (.slice M N.k d)
      have hbz := hid (bset3 (u0 := .int .i64 (W.min + 1)) (u1 := .slice A N.n c) (u2 := .slice M N.k d) (HB0.out.trans (HBm.out.mono HB0.out.size)) (show w.heap.size ≤ g + 1 + 1 by rw [Hg.out]; omega))
      clear Zm
      generalize (((wr.setCell ⟨gb, 0, none⟩ (.int .i64 (W.min + 1))).setCell ⟨g + 1 + 1, 0, none⟩ (.int .i64 (W.min + 1))).setCell ⟨g + 1 + 1, 1, none⟩ (.slice A N.n c)).setCell ⟨g + 1 + 1, 2, none⟩ (.slice M N.k d) = WZ at *
      clear r0 r1 r2
      obtain ⟨r0, r1, r2⟩ := RZ.c3
      exact bodyPost_ret (v := .tuple #[.agg #[.int .i64 (W.min + 1), .slice A N.n c, .slice M N.k d], .slice Af N.k cf]) (by simp [results, Try.results13, go_sem, r0, r1, r2]) rfl ⟨_, _, rfl, hid ⟨A, c, M, d, rfl, OX.out, OY.out⟩, OV.out, hbz.out⟩

end Go.Proofs.Ytockfiobhmohnaa

