/- Networks: Course, Until of the reference. For every network, state, turns and question that are right. -/
import Derived.Test.YtockfiobhmohnaaRu3
namespace Go.Proofs.Ytockfiobhmohnaa
open Go.RowKit Go.Maps Kb Wb

/-- A network, a state, a question in boxes. -/
structure Nwq (w : World) (g B0 : Nat) (N : Nd) (V : Wd) (Bz : Nat) (o : Obj) : Prop where
  n : Nb w g B0 N
  b : Bk w (g + 1) (.cells #[.int .i64 V.min, .slice V.A V.n V.c, .slice V.M V.m V.d] 30 (0, 0))
  a : Wt w Bz V
  q : Bk w (g + 1 + 1) o
section
variable {w w' : World} {g B0 Bz : Nat} {N : Nd} {V : Wd} {o : Obj}
theorem Nwq.below (h : Nwq w g B0 N V Bz o) (hb : Below w.heap.size w w') : Nwq w' g B0 N V Bz o := ⟨h.n.below hb, h.b.step hb, h.a.below hb, h.q.step hb⟩
theorem Nwq.cells {s : ByteArray} (hq : ∀ w : World, Bk w (g + 1 + 1) o → w.cell? ⟨g + 1 + 1, 0, none⟩ = some (.string s)) (h : Nwq w' g B0 N V Bz o) : w'.cell? ⟨g, 0, none⟩ = some (.slice N.A N.n N.c) ∧ w'.cell? ⟨g, 1, none⟩ = some (.slice N.M N.m N.d) ∧ w'.cell? ⟨g, 2, none⟩ = some (.slice N.K N.k N.e) ∧ w'.cell? ⟨g + 1, 0, none⟩ = some (.int .i64 V.min) ∧ w'.cell? ⟨g + 1, 1, none⟩ = some (.slice V.A V.n V.c) ∧ w'.cell? ⟨g + 1, 2, none⟩ = some (.slice V.M V.m V.d) ∧ w'.cell? ⟨g + 1 + 1, 0, none⟩ = some (.string s) := by
  obtain ⟨x0, x1, x2⟩ := h.n.cells
  obtain ⟨y0, y1, y2⟩ := h.b.c3
  exact ⟨x0, x1, x2, y0, y1, y2, hq _ h.q⟩
theorem cell_grown {row : Option Nat} (hg : w.grownBy w' row) {p : Addr} {v : Value} (h : w.cell? p = some v) (hl : p.block < w.heap.size) (hr : row ≠ some p.block) : w'.cell? p = some v := (World.cell?_of_block (hg.block _ hl (fun e => hr e.symm))).trans h
/-- A row grows behind what stands. -/
theorem Wt.grown {row : Option Nat} (h : Wt w Bz V) (hg : w.grownBy w' row) (hr : ∀ k, row = some k → (0 < V.n → ∀ a, V.A = some a → a.block ≠ k) ∧ (0 < V.m → ∀ a, V.M = some a → a.block ≠ k)) : Wt w' Bz V :=
  ⟨fun i hi => by
    obtain ⟨ad, e, h1, h2⟩ := h.x i hi
    exact ⟨ad, e, h1, cell_grown hg h2 (in_add (Nat.lt_of_lt_of_le h1 h.le)) (fun e2 => (hr _ e2).1 (by omega) ad e (by rw [block_of_add]))⟩, fun i hi => by
    obtain ⟨ad, e, h1, h2⟩ := h.y i hi
    exact ⟨ad, e, h1, cell_grown hg h2 (in_add (Nat.lt_of_lt_of_le h1 h.le)) (fun e2 => (hr _ e2).2 (by omega) ad e (by rw [block_of_add]))⟩, Nat.le_trans h.le hg.size, h.nc, h.cm, h.md, h.dm⟩
end
theorem Wt.of_own {w : World} {b c d : Nat} {N : Nd} {t : Int} {A M : Option Addr} {X : Nat → Int} {Y : Nat → Bool} (hx : w.ownsRow b 3 1 (.slice A N.n c) N.n (ints X N.n)) (hy : w.ownsRow b 4 1 (.slice M N.k d) N.k (bools Y N.k)) : Wt w w.heap.size (Wr N t A c M d X Y) := by
  obtain ⟨a1, a2, a3⟩ := own_xs hx
  obtain ⟨b1, b2, b3⟩ := own_xs hy
  exact ⟨fun i hi => by obtain ⟨ad, e, h1, h2⟩ := a1 i hi; exact ⟨ad, e, h1, h2.trans (ints_get _ hi)⟩, fun i hi => by obtain ⟨ad, e, h1, h2⟩ := b1 i hi; exact ⟨ad, e, h1, h2.trans (bools_get _ hi)⟩, Nat.le_refl _, a2, a3, b2, b3⟩
theorem Nwq.put {w : World} {g B0 Bz b c d : Nat} {N : Nd} {V : Wd} {o : Obj} {t : Int} {A M : Option Addr} {X : Nat → Int} {Y : Nat → Bool} (h : Nwq w g B0 N V Bz o) (hx : w.ownsRow b 3 1 (.slice A N.n c) N.n (ints X N.n)) (hy : w.ownsRow b 4 1 (.slice M N.k d) N.k (bools Y N.k)) (hg : g + 1 < b)
    (hN : Nt (((w.setCell ⟨g + 1, 0, none⟩ (.int .i64 t)).setCell ⟨g + 1, 1, none⟩ (.slice A N.n c)).setCell ⟨g + 1, 2, none⟩ (.slice M N.k d)) B0 N) : Nwq (((w.setCell ⟨g + 1, 0, none⟩ (.int .i64 t)).setCell ⟨g + 1, 1, none⟩ (.slice A N.n c)).setCell ⟨g + 1, 2, none⟩ (.slice M N.k d)) g B0 N (Wr N t A c M d X Y) (((w.setCell ⟨g + 1, 0, none⟩ (.int .i64 t)).setCell ⟨g + 1, 1, none⟩ (.slice A N.n c)).setCell ⟨g + 1, 2, none⟩ (.slice M N.k d)).heap.size o :=
  ⟨⟨bk_set (bk_set (bk_set h.n.b (show g ≠ g + 1 by omega)) (show g ≠ g + 1 by omega)) (show g ≠ g + 1 by omega), hN⟩, fill3 h.b, Wt.of_own (own_setBox hx hg) (own_setBox hy hg), bk_set (bk_set (bk_set h.q (show g + 1 + 1 ≠ g + 1 by omega)) (show g + 1 + 1 ≠ g + 1 by omega)) (show g + 1 + 1 ≠ g + 1 by omega)⟩
theorem QC3 {w : World} {g : Nat} {s : ByteArray} {x y : Value} {T : TypeId} (h : Bk w g (.cells #[.string s, x, y] T (0, 0))) : w.cell? ⟨g, 0, none⟩ = some (.string s) := h.c3.1
theorem QC4 {w : World} {g : Nat} {s : ByteArray} {x y z : Value} {T : TypeId} (h : Bk w g (.cells #[.string s, x, y, z] T (0, 0))) : w.cell? ⟨g, 0, none⟩ = some (.string s) := (Bk.c4 h).1

set_option maxRecDepth 100000 in
set_option maxHeartbeats 8000000 in
theorem rUntil_any {w : World} {B0 B1 B2 u : Nat} {N : Nd} {W : Wd} {T : Tn} {P : Option Addr} {s : ByteArray} {E : Int} {rs : Bool} (n bi : Nat) (hbi : bi < N.n) (HIX : Hid (Ixn N.n N.bnm s bi)) (HF : Hid (Fit N W)) (Hs : Hid (Nsm N)) (Hte : Hid (Te N T 0)) (h : Nt w B0 N) (hw : Wt w B1 W) (hT : Tl w B2 P T.p T.tm T.tl T.tp) (hk : W.min + n ≤ 1000000) :
    Calls Try.prog 24 #[.agg #[.slice N.A N.n N.c, .slice N.M N.m N.d, .slice N.K N.k N.e], .agg #[.int .i64 W.min, .slice W.A W.n W.c, .slice W.M W.m W.d], .slice P T.p u, .agg #[.string s, .int .i64 E, .int .i64 (n : Int), .bool rs]] w fun e w' => ∃ k : Int, e = .returned (.int .i64 k) ∧ Hid (UnR N T W bi E rs n k) ∧ Below w.heap.size w w' := by
  have t0 : 0 ≤ W.min := HF.out.t0
  have hs := Hs.out
  obtain ⟨g, hg⟩ : ∃ g, w.heap.size = g := ⟨_, rfl⟩
  have HB := hid ((((Below.refl w.heap.size w).alloc (Nat.le_refl _) (.cells #[.slice N.A N.n N.c, .slice N.M N.m N.d, .slice N.K N.k N.e] 26)).alloc (by simp) (.cells #[.int .i64 W.min, .slice W.A W.n W.c, .slice W.M W.m W.d] 30)).alloc (by simp; omega) (.cells #[.string s, .int .i64 E, .int .i64 (n : Int), .bool rs] 58))
  have K1 := ((Nb.new h hg).below (alo (o := .cells #[.int .i64 W.min, .slice W.A W.n W.c, .slice W.M W.m W.d] 30))).below (alo (o := .cells #[.string s, .int .i64 E, .int .i64 (n : Int), .bool rs] 58))
  have V1 : Bk _ (g + 1) _ := (Bk.of_alloc (w.alloc (.cells #[.slice N.A N.n N.c, .slice N.M N.m N.d, .slice N.K N.k N.e] 26)) (.cells #[.int .i64 W.min, .slice W.A W.n W.c, .slice W.M W.m W.d] 30) (by simp [hg])).alloc (.cells #[.string s, .int .i64 E, .int .i64 (n : Int), .bool rs] 58)
  have R1 : Bk _ (g + 1 + 1) _ := Bk.of_alloc ((w.alloc (.cells #[.slice N.A N.n N.c, .slice N.M N.m N.d, .slice N.K N.k N.e] 26)).alloc (.cells #[.int .i64 W.min, .slice W.A W.n W.c, .slice W.M W.m W.d] 30)) (.cells #[.string s, .int .i64 E, .int .i64 (n : Int), .bool rs] 58) (by simp [hg])
  have hs0 : (((w.alloc (.cells #[.slice N.A N.n N.c, .slice N.M N.m N.d, .slice N.K N.k N.e] 26)).alloc (.cells #[.int .i64 W.min, .slice W.A W.n W.c, .slice W.M W.m W.d] 30)).alloc (.cells #[.string s, .int .i64 E, .int .i64 (n : Int), .bool rs] 58)).heap.size = g + 3 := by simp [hg]
  have HN := hid h
  have HT := hid hT
  have Hg := hid hg
  have Hwt := hid hw
  clear h hT hw
  go_enter Try.func24, Try.ntmps24
  go_wp2_with fail
  generalize ((w.alloc (.cells #[.slice N.A N.n N.c, .slice N.M N.m N.d, .slice N.K N.k N.e] 26)).alloc (.cells #[.int .i64 W.min, .slice W.A W.n W.c, .slice W.M W.m W.d] 30)).alloc (.cells #[.string s, .int .i64 E, .int .i64 (n : Int), .bool rs] 58) = W0 at *
  have D : Nwq W0 g B0 N W B1 (.cells #[.string s, .int .i64 E, .int .i64 (n : Int), .bool rs] 58 (0, 0)) := ⟨K1, V1, Hwt.out.below HB.out, R1⟩
  clear K1 V1 R1 hg
  have QC : ∀ w : World, Bk w (g + 1 + 1) (.cells #[.string s, .int .i64 E, .int .i64 (n : Int), .bool rs] 58 (0, 0)) → w.cell? ⟨g + 1 + 1, 0, none⟩ = some (.string s) := fun w h => QC4 h
  go_loopw [9] (fun iv wr => ∃ i : Nat, i ≤ n + 1 ∧ iv = .int .i64 i ∧ (∃ V Bz, Nwq wr g B0 N V Bz (.cells #[.string s, .int .i64 E, .int .i64 (n : Int), .bool rs] 58 (0, 0)) ∧ Fit N V ∧ (i ≤ n → V.min = W.min + (i : Int) ∧ V.X = (rnS N T W.min W.X W.Y i).1 ∧ V.Y = (rnS N T W.min W.X W.Y i).2)) ∧ (∀ j, j < i → hitB rs E (lvC N T W bi 1 j) = false) ∧ Below w.heap.size w wr ∧ g + 3 ≤ wr.heap.size) (fun iv _ => (n + 1) - (intOf iv).toNat)
  case atStart => exact ⟨0, Nat.zero_le _, rfl, ⟨W, B1, D, HF.out, fun _ => ⟨by omega, rfl, rfl⟩⟩, fun j hj => absurd hj (Nat.not_lt_zero _), HB.out, by omega⟩
  case round =>
    obtain ⟨i, hi, rfl, ⟨V, Bz, Di, hFV, hV⟩, hno, hbi2, hgz⟩ := hrel
    have HBi := hid hbi2
    have HNo := hid hno
    have HFV := hid hFV
    clear hbi2 hno D HB hFV
    obtain ⟨q0, q1, q2, q3⟩ := Bk.c4 Di.q
    by_cases hlt : i < n + 1
    · have dlt : decide ((i : Int) ≤ (n : Int)) = true := decide_eq_true (by omega)
      obtain ⟨hV1, hV2, hV3⟩ := hV (by omega)
      have HLV0 := hid (show lvC N T W bi 1 i = lvB (N.b bi) (V.X bi) from by unfold lvC; rw [Nat.mul_one, hV2])
      obtain ⟨lv, hlv⟩ : ∃ lv, lvB (N.b bi) (V.X bi) = lv := ⟨_, rfl⟩
      have HLV := hid hlv
      rw [hlv] at HLV0
      have HV := hid (And.intro hV1 (And.intro hV2 hV3))
      clear hlv hV1 hV2 hV3 hV
      have hbI : (bi : Int) < (N.n : Int) := by omega
      go_wp2_with fail
      clear q0 q1 q2 q3
      have HD0 := hid ((Di).below dr0)
      refine wp_region_late 9 (fun w' => w'.cell? ⟨g, 0, none⟩ = some (.slice N.A N.n N.c) ∧ w'.cell? ⟨g, 1, none⟩ = some (.slice N.M N.m N.d) ∧ w'.cell? ⟨g, 2, none⟩ = some (.slice N.K N.k N.e) ∧ w'.cell? ⟨g + 1, 0, none⟩ = some (.int .i64 V.min) ∧ w'.cell? ⟨g + 1, 1, none⟩ = some (.slice V.A V.n V.c) ∧ w'.cell? ⟨g + 1, 2, none⟩ = some (.slice V.M V.m V.d) ∧ w'.cell? ⟨g + 1 + 1, 0, none⟩ = some (.string s)) (by kernel_rfl) (by with_reducible exact Nwq.cells QC HD0.out) (fun hHeld => ?_)
      refine wpLate_take 0 [0, 9] (v := ?_) rfl (by kernel_rfl) (by kernel_rfl) (by kernel_rfl) (fun _ _ _ h => h) (by kernel_rfl) (by kernel_rfl) (Or.inl ⟨by rfl, ?_⟩) hHeld ?_
      rotate_left
      · intro w hSw
        (try dsimp only at hSw)
        go_simp
        (try with_reducible rfl)
      (try simp only [Act.put, List.setIfInBounds_toArray, List.set_cons_zero, List.set_cons_succ])
      refine wpLate_take 1 [1, 9] (v := ?_) rfl (by kernel_rfl) (by kernel_rfl) (by kernel_rfl) (fun _ _ _ h => h) (by kernel_rfl) (by kernel_rfl) (Or.inl ⟨by rfl, ?_⟩) hHeld ?_
      rotate_left
      · intro w hSw
        (try dsimp only at hSw)
        go_simp
        (try with_reducible rfl)
      (try simp only [Act.put, List.setIfInBounds_toArray, List.set_cons_zero, List.set_cons_succ])
      refine wpLate_take 3 [3, 9] (v := ?_) rfl (by kernel_rfl) (by kernel_rfl) (by kernel_rfl) (fun _ _ _ h => h) (by kernel_rfl) (by kernel_rfl) (Or.inl ⟨by rfl, ?_⟩) hHeld ?_
      rotate_left
      · intro w hSw
        (try dsimp only at hSw)
        go_simp
        (try with_reducible rfl)
      (try simp only [Act.put, List.setIfInBounds_toArray, List.set_cons_zero, List.set_cons_succ])
      refine wpLate_take 4 [4, 9] (v := ?_) rfl (by kernel_rfl) (by kernel_rfl) (by kernel_rfl) (fun _ _ _ h => h) (by kernel_rfl) (by kernel_rfl) (Or.inl ⟨by rfl, ?_⟩) hHeld ?_
      rotate_left
      · intro w hSw
        (try dsimp only at hSw)
        go_simp
        (try with_reducible rfl)
      (try simp only [Act.put, List.setIfInBounds_toArray, List.set_cons_zero, List.set_cons_succ])
      refine wpLate_take 5 [5, 9] (v := ?_) rfl (by kernel_rfl) (by kernel_rfl) (by kernel_rfl) (fun _ _ _ h => h) (by kernel_rfl) (by kernel_rfl) (Or.inl ⟨by rfl, ?_⟩) hHeld ?_
      rotate_left
      · intro w hSw
        (try dsimp only at hSw)
        go_simp
        (try with_reducible rfl)
      (try simp only [Act.put, List.setIfInBounds_toArray, List.set_cons_zero, List.set_cons_succ])
      refine wpLate_one 2 (by kernel_rfl) rfl (fun K hK => ?_)
      go_simp
      (go_at_call 47; (with_reducible refine (rLevels_ok HFV Hs.out HD0.out.n.a HD0.out.a).mono ?_); rintro e5 w5 ⟨v, rfl, hov, hb05⟩; obtain ⟨Al, cl, rfl⟩ := own_slice hov.out; have D1 := HD0.out.below hb05)
      clear hHeld
      refine hK.out _ _ (by with_reducible exact Nwq.cells QC D1) (fun hHeld => ?_)
      clear hK K
      (try simp only [Act.put, List.setIfInBounds_toArray, List.set_cons_zero, List.set_cons_succ])
      refine wpLate_one 6 (by kernel_rfl) rfl (fun K hK => ?_)
      go_simp
      (go_at_call 28; (with_reducible refine (rBasin_is HIX D1.n.a Hs.out).mono ?_); rintro e6 w6 ⟨rfl, hb56⟩; have D2 := D1.below hb56; obtain ⟨al, rfl, -, hcl⟩ := (own_xs (own_below hov.out hb56)).1 bi hbi; rw [ints_get _ hbi, HLV.out] at hcl; have HB6 := hid ((HBi.out.drew.trans (hb05.mono HBi.out.size)).trans (hb56.mono (Nat.le_trans HBi.out.size hb05.size))))
      clear hHeld
      refine hK.out _ _ (by with_reducible exact Nwq.cells QC D2) (fun hHeld => ?_)
      clear hK K
      (try simp only [Act.put, List.setIfInBounds_toArray, List.set_cons_zero, List.set_cons_succ])
      refine wpLate_take 7 [7, 9] (v := ?_) rfl (by kernel_rfl) (by kernel_rfl) (by kernel_rfl) (fun _ _ _ h => h) (by kernel_rfl) (by kernel_rfl) (Or.inl ⟨by rfl, ?_⟩) hHeld ?_
      rotate_left
      · intro w hSw
        (try dsimp only at hSw)
        go_simp
        (try with_reducible rfl)
      (try simp only [Act.put, List.setIfInBounds_toArray, List.set_cons_zero, List.set_cons_succ])
      refine wpLate_one 8 (by kernel_rfl) rfl (fun K hK => ?_)
      go_simp
      skip
      clear hHeld
      refine hK.out _ _ (by with_reducible exact Nwq.cells QC D2) (fun hHeld => ?_)
      clear hK K
      (try simp only [Act.put, List.setIfInBounds_toArray, List.set_cons_zero, List.set_cons_succ])
      clear hHeld
      refine wpLate_last 9 rfl (by kernel_rfl) (by kernel_rfl) rfl (fun K hK => ?_)
      go_simp
      refine hK.out _ _ ?_
      clear hK K
      (try simp only [Act.put, List.setIfInBounds_toArray, List.set_cons_zero, List.set_cons_succ])
      obtain ⟨q0, q1, q2, q3⟩ := Bk.c4 D2.q
      clear HD0 D1 hb05 hb56 hov hcl
      cases rs
      case true =>
        by_cases hh : E ≤ lv
        ·
          have dh : decide (E ≤ lv) = true := decide_eq_true hh
          have HH := hid (show UnR N T W bi E true n (i : Int) from .inl ⟨i, by omega, HNo.out, by rw [HLV0.out]; exact dh, rfl⟩)
          clear hh
          go_wp2
          go_ret
          exact ⟨_, rfl, HH.out |> hid, HB6.out⟩
        ·
          have dh : decide (E ≤ lv) = false := decide_eq_false hh
          have HH := hid (show hitB true E (lvC N T W bi 1 i) = false from by rw [HLV0.out]; exact dh)
          have HNo2 := hid (show ∀ j, j < i + 1 → hitB true E (lvC N T W bi 1 j) = false from fun j hj => by
            rcases Nat.lt_or_ge j i with h | h
            · exact HNo.out j h
            · have e : j = i := by omega
              subst e
              exact HH.out)
          clear hh
          by_cases hin : i < n
          · have din : decide ((i : Int) < (n : Int)) = true := decide_eq_true (by omega)
            have din2 : decide (i < n) = true := decide_eq_true hin
            obtain ⟨x0, x1, x2, x3, x4, x5, x6⟩ := Nwq.cells QC D2
            go_wp2_with fail
            clear x0 x1 x2 x3 x4 x5 x6 q0 q1 q2 q3
            refine (rRun_any (W := V) (u := u) 1 HFV Hs Hte D2.n.a D2.a (HT.out.below HB6.out) (by have := HV.out.1; omega)).mono ?_
            rintro e7 w7 ⟨v7, rfl, hv7, hb7⟩
            obtain ⟨A5, c5, M5, d5, rfl, hx5, hy5⟩ := hv7.out
            have D7 := D2.below hb7
            obtain ⟨z0, z1, z2⟩ := D7.b.c3
            have f0 := Bk.fz D7.b 0
            have f1 := Bk.fz D7.b 1
            have f2 := Bk.fz D7.b 2
            have hg7 : g + 1 < w6.heap.size := D2.b.lt
            have HBX := hid (bset3 (u0 := .int .i64 (V.min + ((1 : Nat) : Int))) (u1 := .slice A5 N.n c5) (u2 := .slice M5 N.k d5) (HB6.out.trans (hb7.mono HB6.out.size)) (show w.heap.size ≤ g + 1 by rw [Hg.out]; omega))
            have DX : Nwq (((w7.setCell ⟨g + 1, 0, none⟩ (.int .i64 (V.min + ((1 : Nat) : Int)))).setCell ⟨g + 1, 1, none⟩ (.slice A5 N.n c5)).setCell ⟨g + 1, 2, none⟩ (.slice M5 N.k d5)) g B0 N _ _ _ := D7.put hx5 hy5 hg7 (HN.out.below HBX.out)
            have HFX := hid (show Fit N (Wr N (V.min + ((1 : Nat) : Int)) A5 c5 M5 d5 (rnS N T V.min V.X V.Y 1).1 (rnS N T V.min V.X V.Y 1).2) from by
              have h := rnS_ok (T := T) HFV.out.wp HN.out 1 (by have := HV.out.1; omega)
              exact ⟨h.c, h.t0, h.t1, rfl, rfl, h.l⟩)
            have HDX := hid DX
            have hzX : g + 3 ≤ (((w7.setCell ⟨g + 1, 0, none⟩ (.int .i64 (V.min + ((1 : Nat) : Int)))).setCell ⟨g + 1, 1, none⟩ (.slice A5 N.n c5)).setCell ⟨g + 1, 2, none⟩ (.slice M5 N.k d5)).heap.size := by have := D7.q.lt; simp [World.setCell]; omega
            clear hv7 hx5 hy5 hb7 D2 DX
            have HEQ := hid (show (rnS N T V.min V.X V.Y 1) = rnS N T W.min W.X W.Y (i + 1) from by rw [rnS_add, HV.out.1, HV.out.2.1, HV.out.2.2])
            go_wp2
            go_roundw
            case rel => exact ⟨i + 1, by omega, by go_num, ⟨_, _, HDX.out, HFX.out, fun _ => ⟨by show V.min + ((1 : Nat) : Int) = _; rw [HV.out.1]; omega, by show (rnS N T V.min V.X V.Y 1).1 = _; rw [HEQ.out], by show (rnS N T V.min V.X V.Y 1).2 = _; rw [HEQ.out]⟩⟩, HNo2.out, HBX.out, hzX⟩
            case measure => simp [intOf]; omega
          · have din : decide ((i : Int) < (n : Int)) = false := decide_eq_false (by omega)
            have din2 : decide (i < n) = false := decide_eq_false hin
            have hz6 : g + 3 ≤ w6.heap.size := by have := D2.q.lt; omega
            have HD2 := hid D2
            clear D2
            go_wp2
            go_roundw
            case rel => exact ⟨i + 1, by omega, by go_num, ⟨V, Bz, HD2.out, HFV.out, fun h => absurd h (by omega)⟩, HNo2.out, HB6.out, hz6⟩
            case measure => simp [intOf]; omega
      case false =>
        by_cases hh : lv ≤ E
        ·
          have dh : decide (lv ≤ E) = true := decide_eq_true hh
          have HH := hid (show UnR N T W bi E false n (i : Int) from .inl ⟨i, by omega, HNo.out, by rw [HLV0.out]; exact dh, rfl⟩)
          clear hh
          go_wp2
          go_ret
          exact ⟨_, rfl, HH.out |> hid, HB6.out⟩
        ·
          have dh : decide (lv ≤ E) = false := decide_eq_false hh
          have HH := hid (show hitB false E (lvC N T W bi 1 i) = false from by rw [HLV0.out]; exact dh)
          have HNo2 := hid (show ∀ j, j < i + 1 → hitB false E (lvC N T W bi 1 j) = false from fun j hj => by
            rcases Nat.lt_or_ge j i with h | h
            · exact HNo.out j h
            · have e : j = i := by omega
              subst e
              exact HH.out)
          clear hh
          by_cases hin : i < n
          · have din : decide ((i : Int) < (n : Int)) = true := decide_eq_true (by omega)
            have din2 : decide (i < n) = true := decide_eq_true hin
            obtain ⟨x0, x1, x2, x3, x4, x5, x6⟩ := Nwq.cells QC D2
            go_wp2_with fail
            clear x0 x1 x2 x3 x4 x5 x6 q0 q1 q2 q3
            refine (rRun_any (W := V) (u := u) 1 HFV Hs Hte D2.n.a D2.a (HT.out.below HB6.out) (by have := HV.out.1; omega)).mono ?_
            rintro e7 w7 ⟨v7, rfl, hv7, hb7⟩
            obtain ⟨A5, c5, M5, d5, rfl, hx5, hy5⟩ := hv7.out
            have D7 := D2.below hb7
            obtain ⟨z0, z1, z2⟩ := D7.b.c3
            have f0 := Bk.fz D7.b 0
            have f1 := Bk.fz D7.b 1
            have f2 := Bk.fz D7.b 2
            have hg7 : g + 1 < w6.heap.size := D2.b.lt
            have HBX := hid (bset3 (u0 := .int .i64 (V.min + ((1 : Nat) : Int))) (u1 := .slice A5 N.n c5) (u2 := .slice M5 N.k d5) (HB6.out.trans (hb7.mono HB6.out.size)) (show w.heap.size ≤ g + 1 by rw [Hg.out]; omega))
            have DX : Nwq (((w7.setCell ⟨g + 1, 0, none⟩ (.int .i64 (V.min + ((1 : Nat) : Int)))).setCell ⟨g + 1, 1, none⟩ (.slice A5 N.n c5)).setCell ⟨g + 1, 2, none⟩ (.slice M5 N.k d5)) g B0 N _ _ _ := D7.put hx5 hy5 hg7 (HN.out.below HBX.out)
            have HFX := hid (show Fit N (Wr N (V.min + ((1 : Nat) : Int)) A5 c5 M5 d5 (rnS N T V.min V.X V.Y 1).1 (rnS N T V.min V.X V.Y 1).2) from by
              have h := rnS_ok (T := T) HFV.out.wp HN.out 1 (by have := HV.out.1; omega)
              exact ⟨h.c, h.t0, h.t1, rfl, rfl, h.l⟩)
            have HDX := hid DX
            have hzX : g + 3 ≤ (((w7.setCell ⟨g + 1, 0, none⟩ (.int .i64 (V.min + ((1 : Nat) : Int)))).setCell ⟨g + 1, 1, none⟩ (.slice A5 N.n c5)).setCell ⟨g + 1, 2, none⟩ (.slice M5 N.k d5)).heap.size := by have := D7.q.lt; simp [World.setCell]; omega
            clear hv7 hx5 hy5 hb7 D2 DX
            have HEQ := hid (show (rnS N T V.min V.X V.Y 1) = rnS N T W.min W.X W.Y (i + 1) from by rw [rnS_add, HV.out.1, HV.out.2.1, HV.out.2.2])
            go_wp2
            go_roundw
            case rel => exact ⟨i + 1, by omega, by go_num, ⟨_, _, HDX.out, HFX.out, fun _ => ⟨by show V.min + ((1 : Nat) : Int) = _; rw [HV.out.1]; omega, by show (rnS N T V.min V.X V.Y 1).1 = _; rw [HEQ.out], by show (rnS N T V.min V.X V.Y 1).2 = _; rw [HEQ.out]⟩⟩, HNo2.out, HBX.out, hzX⟩
            case measure => simp [intOf]; omega
          · have din : decide ((i : Int) < (n : Int)) = false := decide_eq_false (by omega)
            have din2 : decide (i < n) = false := decide_eq_false hin
            have hz6 : g + 3 ≤ w6.heap.size := by have := D2.q.lt; omega
            have HD2 := hid D2
            clear D2
            go_wp2
            go_roundw
            case rel => exact ⟨i + 1, by omega, by go_num, ⟨V, Bz, HD2.out, HFV.out, fun h => absurd h (by omega)⟩, HNo2.out, HB6.out, hz6⟩
            case measure => simp [intOf]; omega

    · have dlt : decide ((i : Int) ≤ (n : Int)) = false := decide_eq_false (by omega)
      have HH := hid (show UnR N T W bi E rs n (-1) from .inr ⟨fun j hj => HNo.out j (by omega), rfl⟩)
      go_wp2
      go_ret
      exact ⟨-1, rfl, HH, HBi.out⟩

end Go.Proofs.Ytockfiobhmohnaa

