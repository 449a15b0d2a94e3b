/- The reference's AddRat. For all fractions of at most 400 limbs. -/
import Derived.Test.YtffipjofefemiaaGreatDoorTw4
namespace Go.Proofs.YtffipjofefemiaaGreatDoor
open Go.RowKit Kb

set_option maxRecDepth 100000 in
set_option maxHeartbeats 80000000 in
theorem rAddRat {w : World} {s1 : Bool} {A1 : Option Addr} {n1 c1 : Nat} {s2 : Bool} {A2 : Option Addr} {n2 c2 : Nat} {t1 : Bool} {B1 : Option Addr} {m1 d1 : Nat} {t2 : Bool} {B2 : Option Addr} {m2 d2 : Nat} {k l : Nat} {x y : Rat} (h : Ri w s1 A1 n1 c1 s2 A2 n2 c2 k x) (g0 : Ri w t1 B1 m1 d1 t2 B2 m2 d2 l y) (hk0 : 0 < k) (hl0 : 0 < l) (hk : k ≤ 400) (hl : l ≤ 400) :
    Calls Tryz.prog 18 #[.agg #[.bool s1, .slice A1 n1 c1, .bool s2, .slice A2 n2 c2], .agg #[.bool t1, .slice B1 m1 d1, .bool t2, .slice B2 m2 d2]] w fun e w' => ∃ s1 A1 n1 c1 s2 A2 n2 c2, e = .returned (.agg #[.bool s1, .slice A1 n1 c1, .bool s2, .slice A2 n2 c2]) ∧ Qf w' s1 A1 n1 c1 s2 A2 n2 c2 (x + y) ∧ Below w.heap.size w w' := by
  have b0 := three_new w (.cells #[.bool s1, .slice A1 n1 c1, .bool s2, .slice A2 n2 c2] 26) (.cells #[.bool t1, .slice B1 m1 d1, .bool t2, .slice B2 m2 d2] 26) (.cells #[.bool false, .slice none 0 0, .bool false, .slice none 0 0] 26)
  have hB := (((Below.refl w.heap.size w).alloc (Nat.le_refl _) (.cells #[.bool s1, .slice A1 n1 c1, .bool s2, .slice A2 n2 c2] 26)).alloc (by simp) (.cells #[.bool t1, .slice B1 m1 d1, .bool t2, .slice B2 m2 d2] 26)).alloc (by simp; omega) (.cells #[.bool false, .slice none 0 0, .bool false, .slice none 0 0] 26)
  obtain ⟨g, hg⟩ : ∃ g, w.heap.size = g := ⟨_, rfl⟩
  have lx := h.q.ql hk0
  have ly := g0.q.ql hl0
  have HX := hid (ql_1000 lx hk)
  have HY := hid (ql_1000 ly hl)
  go_enter Tryz.func18, Tryz.ntmps18
  go_wp2_with fail
  rw [hg] at b0
  generalize ((w.alloc (.cells #[.bool s1, .slice A1 n1 c1, .bool s2, .slice A2 n2 c2] 26)).alloc (.cells #[.bool t1, .slice B1 m1 d1, .bool t2, .slice B2 m2 d2] 26)).alloc (.cells #[.bool false, .slice none 0 0, .bool false, .slice none 0 0] 26) = W0 at *
  have P : Rp w g s1 A1 n1 c1 s2 A2 n2 c2 k x t1 B1 m1 d1 t2 B2 m2 d2 l y W0 := ⟨⟨b0.1, h.below hB⟩, ⟨b0.2.1, g0.below hB⟩, b0.2.2, hB⟩
  have Hg := hid hg
  clear hB b0 h g0 hg
  have K := P.clo
  have hcells := P.cells
  go_cut [5, 6] (fun s5 s6 wx => Tw4 (Rp w g s1 A1 n1 c1 s2 A2 n2 c2 k x t1 B1 m1 d1 t2 B2 m2 d2 l y) W0.heap.size x y s5 s6 wx)
  case first =>
    rename_i Kr hKr J0 K0 hJ0 hK0
    clear hKr
    have hk0 := hid (Rp.cells (K.below P dr0))
    have hk1 := hid (fun o : Obj => Rp.cells (K.below P (dr1 (o := o))))
    have hk2 := hid (fun o p : Obj => Rp.cells (K.below P (dr2 (o := o) (p := p))))
    go_region_held3 (fun w' => w'.cell? ⟨g, 0, none⟩ = some (.bool s1) ∧ w'.cell? ⟨g, 1, none⟩ = some (.slice A1 n1 c1) ∧ w'.cell? ⟨g, 2, none⟩ = some (.bool s2) ∧ w'.cell? ⟨g, 3, none⟩ = some (.slice A2 n2 c2) ∧ w'.cell? ⟨g + 1, 0, none⟩ = some (.bool t1) ∧ w'.cell? ⟨g + 1, 1, none⟩ = some (.slice B1 m1 d1) ∧ w'.cell? ⟨g + 1, 2, none⟩ = some (.bool t2) ∧ w'.cell? ⟨g + 1, 3, none⟩ = some (.slice B2 m2 d2)) (first
      | with_reducible exact hk0.out
      | with_reducible exact hk1.out _
      | with_reducible exact hk2.out _ _
      | with_reducible exact hk10.out
      | with_reducible exact hk11.out _
      | with_reducible exact hk12.out _ _
      | with_reducible exact hk20.out
      | with_reducible exact hk21.out _
      | with_reducible exact hk22.out _ _
      | with_reducible exact hsa.out _ _ _ _
      | with_reducible exact hsb.out _ _ _ _
      | with_reducible exact hsao.out _ _ _ _ _
      | with_reducible exact hsab.out _ _ _ _ _ _ _ _
      | with_reducible exact hsba.out _ _ _ _ _ _ _ _) (first
      | (go_at_call 51; (first | with_reducible refine (rNormRat (K.below P dr0).a.z (by omega)).mono ?_ | with_reducible refine (rNormRat (K.below P dr1).a.z (by omega)).mono ?_ | with_reducible refine (rNormRat (K.below P dr2).a.z (by omega)).mono ?_); rintro e w1 ⟨a1, a2, a3, a4, a5, a6, a7, a8, rfl, h4, hb1⟩; (first | ((with_reducible have H := sd2q (Nat.le_refl _) hb1); obtain ⟨hc1, qa, qb⟩ := H; have nab := (Nat.ne_of_lt (Nat.lt_succ_self W0.heap.size)); have nba := fun e => nab (Eq.symm e)) | ((with_reducible have H := sd1q (Nat.le_refl _) hb1); obtain ⟨hc1, qa⟩ := H) | ((with_reducible have hc1 := sd0 hb1))); have P1 := K.below P hc1; have hN1 := hc1.size; have hk10 := hid (Rp.cells P1); have hk11 := hid (fun o : Obj => Rp.cells (K.below P1 (al1 (o := o)))); have hk12 := hid (fun o p : Obj => Rp.cells (K.below P1 (al2 (o := o) (p := p)))))
      | (go_at_call 51; (first | with_reducible refine (rNormRat P1.b.z (by omega)).mono ?_ | with_reducible refine (rNormRat (K.below P1 al1).b.z (by omega)).mono ?_ | with_reducible refine (rNormRat (K.below P1 al2).b.z (by omega)).mono ?_); rintro e w2 ⟨b1, b2, b3, b4, b5, b6, b7, b8, rfl, h5, hb2⟩; (first | ((with_reducible have H := se2q hN1 hb2); obtain ⟨hc2, qa, qb⟩ := H; have nab := (Nat.ne_of_lt (Nat.lt_succ_self w1.heap.size)); have nba := fun e => nab (Eq.symm e)) | ((with_reducible have H := se1q hN1 hb2); obtain ⟨hc2, q⟩ := H; (first | (have nab := Nat.ne_of_lt qa.lt; have nba := fun e => nab (Eq.symm e); have qb := q; replace qa := qa.step hc2) | have qa := q)) | (have hc2 := hb2; (try replace qa := qa.step hc2); (try replace qb := qb.step hc2))); have P2 := K.below P1 hc2; have hN2 := Nat.le_trans hN1 hc2.size; have hk20 := hid (Rp.cells P2); have hk21 := hid (fun o : Obj => Rp.cells (K.below P2 (al1 (o := o)))); have hk22 := hid (fun o p : Obj => Rp.cells (K.below P2 (al2 (o := o) (p := p)))); replace h4 := h4.below hc2; (try have hsa := hid (fun (u0 u1 u2 u3 : Value) => Rp.cells (K.set (u0 := u0) (u1 := u1) (u2 := u2) (u3 := u3) P2 qa))); (try have hsb := hid (fun (u0 u1 u2 u3 : Value) => Rp.cells (K.set (u0 := u0) (u1 := u1) (u2 := u2) (u3 := u3) P2 qb))); (try have hsao := hid (fun (u0 u1 u2 u3 : Value) (o : Obj) => Rp.cells (K.below (K.set (u0 := u0) (u1 := u1) (u2 := u2) (u3 := u3) P2 qa) (al1 (o := o))))); (try have hsab := hid (fun (u0 u1 u2 u3 v0 v1 v2 v3 : Value) => Rp.cells (K.set (u0 := v0) (u1 := v1) (u2 := v2) (u3 := v3) (K.set (u0 := u0) (u1 := u1) (u2 := u2) (u3 := u3) P2 qa) (qb.set nba)))); (try have hsba := hid (fun (u0 u1 u2 u3 v0 v1 v2 v3 : Value) => Rp.cells (K.set (u0 := v0) (u1 := v1) (u2 := v2) (u3 := v3) (K.set (u0 := u0) (u1 := u1) (u2 := u2) (u3 := u3) P2 qb) (qa.set nab)))); (try have lqa := qa.lt); (try obtain ⟨_, _, _, _, _, _, _, _⟩ := qa.1.c4); (try have lqb := qb.lt); (try obtain ⟨_, _, _, _, _, _, _, _⟩ := qb.1.c4)))
    all_goals
      (try clear lqa)
      (try clear lqb)
      go_wp2_with fail
      go_meet
      first
        | with_reducible exact tq1 K P2 h4 h5 hN2
        | with_reducible exact tq2 K P2 h4 h5 hN2
        | with_reducible exact tq3 K P2 h4 h5 qa hN2
        | with_reducible exact tq4 K P2 h4 h5 qa hN2
        | with_reducible exact tq5 K P2 h4 h5 qa qb nab
        | with_reducible exact tq5 K P2 h4 h5 qb qa nba
  case rest =>
    obtain ⟨g5, p1, E1, o1, e1, p2, E2, o2, e2, g6, p3, E3, o3, e3, p4, E4, o4, e4, rfl, rfl, hN5, hN6, j5, j6, hM⟩ := hcut
    have hg5 : g + 1 + 1 < g5 := Nat.lt_of_lt_of_le P.r.lt hN5
    have hg6 : g + 1 + 1 < g6 := Nat.lt_of_lt_of_le P.r.lt hN6
    clear P K hcells hN5 hN6
    rename World => wc
    have Q0 : Nx w (g + 1 + 1) g5 p1 E1 o1 e1 p2 E2 o2 e2 x g6 p3 E3 o3 e3 p4 E4 o4 e4 y wc.drew := ⟨j5.below dr0, j6.below dr0, hM.r.step dr0, bthen hM.bl dr0 (Nat.le_refl _)⟩
    clear j5 j6 hM
    have HP := lx.pq.add ly.pq
    have hcells := Q0.cells
    go_upto_region 2 with fail
    go_region_held3 (fun w' => w'.cell? ⟨g5, 0, none⟩ = some (.bool p1) ∧ w'.cell? ⟨g5, 1, none⟩ = some (.slice E1 o1 e1) ∧ w'.cell? ⟨g5, 2, none⟩ = some (.bool p2) ∧ w'.cell? ⟨g5, 3, none⟩ = some (.slice E2 o2 e2) ∧ w'.cell? ⟨g6, 0, none⟩ = some (.bool p3) ∧ w'.cell? ⟨g6, 1, none⟩ = some (.slice E3 o3 e3) ∧ w'.cell? ⟨g6, 2, none⟩ = some (.bool p4) ∧ w'.cell? ⟨g6, 3, none⟩ = some (.slice E4 o4 e4)) (first | with_reducible exact Nx.cells Q0 | with_reducible exact Nx.cells Q1 | with_reducible exact Nx.cells Q2 | with_reducible exact Nx.cells Q3 | with_reducible exact Nx.cells Q4 | with_reducible exact Nx.cells Q5 | with_reducible exact Nx.off Q5 hg5 hg6) (first
      | (go_at_call 62; with_reducible refine (rMulN Q0.a.z.n Q0.b.z.d HX.out.1 HY.out.2).mono ?_; rintro e v1 ⟨f1, f2, f3, f4, rfl, h1, hb1⟩; have Q1 := Q0.below hb1)
      | (go_at_call 62; with_reducible refine (rMulN Q1.b.z.n Q1.a.z.d HY.out.1 HX.out.2).mono ?_; rintro e v2 ⟨u1, u2, u3, u4, rfl, h2, hb2⟩; have Q2 := Q1.below hb2; replace h1 := h1.below hb2)
      | (go_at_call 69; with_reducible refine (rAddN h1 h2 ((Le.mul lx.num ly.den).mono (by omega)) ((Le.mul ly.num lx.den).mono (by omega))).mono ?_; rintro e v3 ⟨y1, y2, y3, y4, rfl, h3, hb3⟩; have Q3 := Q2.below hb3; replace h1 := h1.below hb3; replace h2 := h2.below hb3)
      | (go_at_call 62; with_reducible refine (rMulN Q3.a.z.d Q3.b.z.d HX.out.2 HY.out.2).mono ?_; rintro e v4 ⟨z1, z2, z3, z4, rfl, h4, hb4⟩; have Q4 := Q3.below hb4; replace h1 := h1.below hb4; replace h2 := h2.below hb4; replace h3 := h3.below hb4)
      | (go_at_call 14; with_reducible refine (rOverN h3 h4 (HP.la.mono (by omega)) (le_mul HP.lb (by omega))).mono ?_; rintro e v5 ⟨r1, R1, o1', e1', r2, R2, o2', e2', rfl, hq, hb5⟩; have Q5 := Q4.below hb5; replace h1 := h1.below hb5; replace h2 := h2.below hb5; replace h3 := h3.below hb5; replace h4 := h4.below hb5; have hl10 := Q5.r.lt; obtain ⟨i0, i1, i2, i3, i4, i5, i6, i7⟩ := Q5.r.c4))
    rw [rv_mul HP.nz, HP.eq] at hq
    have j2 := Q5.r
    have hB4 := hid Q5.bl
    clear Q0 Q1 Q2 Q3 Q4 Q5 hb1 hb2 hb3 hb4 hb5 h1 h2 h3 h4 hcells
    have hgl := Hg.out
    have h11 := hid (below4 hB4.out (show w.heap.size ≤ g + 1 + 1 by omega) (.bool r1) (.slice R1 o1' e1') (.bool r2) (.slice R2 o2' e2'))
    have m1 := hid (hq.n.offbox j2 (noInt_four _ _ _ _ _ _ _ _) (gb4 _ _ (.bool r1) (.slice R1 o1' e1') (.bool r2) (.slice R2 o2' e2')))
    have m2 := hid (hq.d.offbox j2 (noInt_four _ _ _ _ _ _ _ _) (gb4 _ _ (.bool r1) (.slice R1 o1' e1') (.bool r2) (.slice R2 o2' e2')))
    clear hgl j2 hq 
    go_wp2
    exact bodyPost_ret (v := .agg #[.bool r1, .slice R1 o1' e1', .bool r2, .slice R2 o2' e2']) (by simp [results, Tryz.results18, go_sem, i0, i1, i2, i3]) rfl ⟨_, _, _, _, _, _, _, _, rfl, ⟨m1.out, m2.out⟩, h11.out⟩

end Go.Proofs.YtffipjofefemiaaGreatDoor
