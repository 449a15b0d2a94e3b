/- The contract of Nearest. For all fractions of at most 300 limbs. -/
import Derived.Test.YtffipjofefemiaaGreatDoorMJ
namespace Go.Proofs.YtffipjofefemiaaGreatDoor
open Go.RowKit Kb

/-- What stays in Nearest. -/
structure Nr (w : World) (gr g3 : Nat) (p : Bool) (A : Option Addr) (n c : Nat) (a : Int) (g4 : Nat) (B : Option Addr) (m d b k : Nat) (x : Rat) (wx : World) : Prop where
  j3 : Bk wx g3 (.cells #[.bool p, .slice A n c] 24 (0, 0))
  j4 : Bk wx g4 (.cells #[.bool false, .slice B m d] 24 (0, 0))
  f : Pf wx p A n c B m d k x a b
  r : Bk wx gr (.cells #[.bool false, .slice none 0 0] 24 (0, 0))
  bl : Below w.heap.size w wx
section
variable {w wx wy : World} {gr g3 g4 n c m d b k : Nat} {p : Bool} {A B : Option Addr} {a : Int} {x : Rat}
theorem Nr.below (h : Nr w gr g3 p A n c a g4 B m d b k x wx) (hb : Below wx.heap.size wx wy) : Nr w gr g3 p A n c a g4 B m d b k x wy := ⟨h.j3.step hb, h.j4.step hb, h.f.below hb, h.r.step hb, bthen h.bl hb (Nat.le_refl _)⟩
theorem Nr.cells (h : Nr w gr g3 p A n c a g4 B m d b k x wx) : wx.cell? ⟨g3, 0, none⟩ = some (.bool p) ∧ wx.cell? ⟨g3, 1, none⟩ = some (.slice A n c) ∧ wx.cell? ⟨g4, 0, none⟩ = some (.bool false) ∧ wx.cell? ⟨g4, 1, none⟩ = some (.slice B m d) := ⟨h.j3.c2.1, h.j3.c2.2.1, h.j4.c2.1, h.j4.c2.2.1⟩
theorem Nr.clo (h : Nr w gr g3 p A n c a g4 B m d b k x wx) : Clo (Nr w gr g3 p A n c a g4 B m d b k x) wx.heap.size :=
  ⟨fun h hb => h.below hb, fun {y i u v} q hq => by
    have e1 := Nat.lt_of_lt_of_le h.j3.lt hq.2
    have e2 := Nat.lt_of_lt_of_le h.j4.lt hq.2
    have e3 := Nat.lt_of_lt_of_le h.r.lt hq.2
    have e4 := Nat.le_trans h.bl.size hq.2
    exact ⟨q.j3.grown (gb2 _ _ _ _ _ _) (by omega), q.j4.grown (gb2 _ _ _ _ _ _) (by omega), ⟨q.f.num.offbox hq.1 (noInt_zero _ _ _ _) (gb2 _ _ _ _ _ _), q.f.den.offbox hq.1 (noInt_zero _ _ _ _) (gb2 _ _ _ _ _ _), q.f.pq⟩, q.r.grown (gb2 _ _ _ _ _ _) (by omega), (q.bl.setCell (p := ⟨i, 0, none⟩) e4 u).setCell (p := ⟨i, 1, none⟩) e4 v⟩⟩
end
theorem half_pq {k : Nat} {x : Rat} {a : Int} {b : Nat} (h : Pq k x a b) : (a + a + (b : Int)) / ((b : Int) + (b : Int)) = (x + mkRat 1 2).floor := by
  obtain ⟨h0, rfl, h2, h3⟩ := h
  have e : mkRat a b + mkRat 1 2 = mkRat (a + a + (b : Int)) (b + b) := by
    rw [Rat.mkRat_add_mkRat _ _ h0 (by decide)]
    congr 1 <;> omega
  rw [e]
  have hp : Pq (k + 1 + 1) (mkRat (a + a + (b : Int)) (b + b)) (a + a + (b : Int)) (b + b) := ⟨by omega, rfl, (h2.add h2).add (h3.mono (by omega)), by rw [Int.natCast_add]; exact (h3.add h3).mono (by omega)⟩
  have f1 := floor_le hp
  have f2 := lt_floor hp
  rw [Int.natCast_add] at f1 f2
  generalize mkRat (a + a + (b : Int)) (b + b) = r at *
  generalize (a + a + (b : Int)) / ((b : Int) + (b : Int)) = z at *
  have g1 := Rat.le_floor_iff.2 f1
  have g2 : r.floor < z + 1 := Rat.floor_lt_iff.2 (by simpa using f2)
  omega
theorem floor_of {x : Rat} {z : Int} (h1 : (z : Rat) ≤ x) (h2 : x < (z : Rat) + 1) : z = x.floor := by
  have g1 := Rat.le_floor_iff.2 h1
  have g2 : x.floor < z + 1 := Rat.floor_lt_iff.2 (by simpa using h2)
  omega

set_option maxRecDepth 100000 in
set_option maxHeartbeats 80000000 in
theorem Nearest_q {w : World} {s1 s2 : Bool} {A1 A2 : Option Addr} {n1 c1 n2 c2 k : Nat} {x : Rat} (h : Qi w s1 A1 n1 c1 s2 A2 n2 c2 k x) (hk0 : 0 < k) (hk : k ≤ 300) :
    Calls Tryz.prog 30 #[.agg #[.bool s1, .slice A1 n1 c1, .bool s2, .slice A2 n2 c2]] w fun e w' => ∃ r C n c, e = .returned (.agg #[.bool r, .slice C n c]) ∧ Zn w' r C n c (x + mkRat 1 2).floor ∧ Below w.heap.size w w' := by
  have b0 := two_new w (.cells #[.bool s1, .slice A1 n1 c1, .bool s2, .slice A2 n2 c2] 26) (.cells #[.bool false, .slice none 0 0] 24)
  have hB := below_two w (.cells #[.bool s1, .slice A1 n1 c1, .bool s2, .slice A2 n2 c2] 26) (.cells #[.bool false, .slice none 0 0] 24)
  obtain ⟨g, hg⟩ : ∃ g, w.heap.size = g := ⟨_, rfl⟩
  go_enter Tryz.func30, Tryz.ntmps30
  go_wp2_with fail
  rw [hg] at b0
  generalize (w.alloc (.cells #[.bool s1, .slice A1 n1 c1, .bool s2, .slice A2 n2 c2] 26)).alloc (.cells #[.bool false, .slice none 0 0] 24) = W0 at *
  have h0 := h.below hB
  have HB := hid hB
  have Hg := hid hg
  have j2 : Bk W0 (g + 1) _ := b0.2
  clear hB hg b0 h
  refine (parts_q h0 hk0).mono ?_
  rintro e w1 ⟨p, A, n, c, B, m, d, a, b, rfl, hf, hb1⟩
  have Q : Nr w (g + 1) w1.heap.size p A n c a (w1.heap.size + 1) B m d b k x ((w1.alloc (.cells #[.bool p, .slice A n c] 24)).alloc (.cells #[.bool false, .slice B m d] 24)) := ⟨box1 _ _ _, box2 _ _ _, hf.below al2, (j2.step hb1).alloc2 _ _, bthen (bthen HB.out hb1 (Nat.le_refl _)) al2 (Nat.le_refl _)⟩
  have hlt : g + 1 < w1.heap.size := (j2.step hb1).lt
  clear hb1 hf j2 h0 HB
  go_upto_region 2 with fail
  generalize (w1.alloc (.cells #[.bool p, .slice A n c] 24)).alloc (.cells #[.bool false, .slice B m d] 24) = W1 at *
  generalize hg4 : w1.heap.size + 1 = g4 at *
  generalize w1.heap.size = g3 at *
  have Hg4 := hid hg4
  have K := Q.clo
  have l1 := hid (Q.f.pq.la.mono (show k ≤ 300 from hk))
  have l2 := hid (Q.f.pq.lb.mono (show k ≤ 300 from hk))
  have l3 := hid (l1.out.add l1.out)
  have l4 := hid (l3.out.add (l2.out.mono (show 300 ≤ 301 by decide)))
  have l5 := hid (l2.out.add l2.out)
  have Hh := hid (half_pq Q.f.pq)
  have Hnz := hid (show (b : Int) + (b : Int) ≠ 0 by have := Q.f.pq.nz; omega)
  clear hg4
  have hcells := Q.cells
  go_cut [5, 6] (fun s5 s6 wx => Two (Nr w (g + 1) g3 p A n c a g4 B m d b k x) ((a + a + (b : Int)) / ((b : Int) + (b : Int))) ((a + a + (b : Int)) % ((b : Int) + (b : Int))) s5 s6 wx)
  case first =>
    rename_i Kr hKr J0 K0 hJ0 hK0
    clear hKr
    have hk0 := hid (Nr.cells (K.below Q dr0))
    have hk1 := hid (fun o : Obj => Nr.cells (K.below Q (dr1 (o := o))))
    have hk2 := hid (fun o p : Obj => Nr.cells (K.below Q (dr2 (o := o) (p := p))))
    go_region_held3 (fun w' => w'.cell? ⟨g3, 0, none⟩ = some (.bool p) ∧ w'.cell? ⟨g3, 1, none⟩ = some (.slice A n c) ∧ w'.cell? ⟨g4, 0, none⟩ = some (.bool false) ∧ w'.cell? ⟨g4, 1, none⟩ = some (.slice B m d)) (first
      | with_reducible exact hk0.out
      | with_reducible exact hk1.out _
      | with_reducible exact hk2.out _ _
      | with_reducible exact hk10.out
      | with_reducible exact hk11.out _
      | with_reducible exact hk12.out _ _
      | with_reducible exact hk20.out
      | with_reducible exact hk21.out _
      | with_reducible exact hk22.out _ _
      | with_reducible exact hk30.out
      | with_reducible exact hk31.out _
      | with_reducible exact hk32.out _ _
      | with_reducible exact hk40.out
      | with_reducible exact hk41.out _
      | with_reducible exact hk42.out _ _
      | with_reducible exact hsa.out _ _
      | with_reducible exact hsb.out _ _
      | with_reducible exact hsao.out _ _ _
      | with_reducible exact hsab.out _ _ _ _
      | with_reducible exact hsba.out _ _ _ _) (first
      | (go_at_call 68; (first | with_reducible refine (AddZ (K.below Q dr0).f.num (K.below Q dr0).f.num (l1.out.mono (by decide)) (l1.out.mono (by decide))).mono ?_ | with_reducible refine (AddZ (K.below Q dr1).f.num (K.below Q dr1).f.num (l1.out.mono (by decide)) (l1.out.mono (by decide))).mono ?_ | with_reducible refine (AddZ (K.below Q dr2).f.num (K.below Q dr2).f.num (l1.out.mono (by decide)) (l1.out.mono (by decide))).mono ?_); rintro e u1 ⟨r4, C4, o4, e4, rfl, h4, hb1⟩; (first | ((with_reducible have H := sd2 (Nat.le_refl _) hb1); obtain ⟨hc1, qa, qb⟩ := H; have nab := (Nat.ne_of_lt (Nat.lt_succ_self W1.heap.size)); have nba := fun e => nab (Eq.symm e)) | ((with_reducible have H := sd1 (Nat.le_refl _) hb1); obtain ⟨hc1, qa⟩ := H) | ((with_reducible have hc1 := sd0 hb1))); have Q1 := K.below Q hc1; have hN1 := hc1.size; have hk10 := hid (Nr.cells Q1); have hk11 := hid (fun o : Obj => Nr.cells (K.below Q1 (al1 (o := o)))); have hk12 := hid (fun o p : Obj => Nr.cells (K.below Q1 (al2 (o := o) (p := p)))))
      | (go_at_call 68; (first | with_reducible refine (AddZ h4.zi Q1.f.zi (l3.out.mono (by decide)) (l2.out.mono (by decide))).mono ?_ | with_reducible refine (AddZ (h4.below al1).zi (K.below Q1 al1).f.zi (l3.out.mono (by decide)) (l2.out.mono (by decide))).mono ?_ | with_reducible refine (AddZ (h4.below al2).zi (K.below Q1 al2).f.zi (l3.out.mono (by decide)) (l2.out.mono (by decide))).mono ?_); rintro e u2 ⟨r5, C5, o5, e5, rfl, h5, hb2⟩; (first | ((with_reducible have H := se2 hN1 hb2); obtain ⟨hc2, qa, qb⟩ := H; have nab := (Nat.ne_of_lt (Nat.lt_succ_self u1.heap.size)); have nba := fun e => nab (Eq.symm e)) | ((with_reducible have H := se1 hN1 hb2); obtain ⟨hc2, q⟩ := H; (first | (have nab := Nat.ne_of_lt qa.lt; have nba := fun e => nab (Eq.symm e); have qb := q; replace qa := qa.step hc2) | have qa := q)) | (have hc2 := hb2; (try replace qa := qa.step hc2); (try replace qb := qb.step hc2))); have Q2 := K.below Q1 hc2; have hN2 := Nat.le_trans hN1 hc2.size; have hk20 := hid (Nr.cells Q2); have hk21 := hid (fun o : Obj => Nr.cells (K.below Q2 (al1 (o := o)))); have hk22 := hid (fun o p : Obj => Nr.cells (K.below Q2 (al2 (o := o) (p := p)))); replace h4 := h4.below hc2)
      | (go_at_call 68; (first | with_reducible refine (AddZ Q2.f.zi Q2.f.zi (l2.out.mono (by decide)) (l2.out.mono (by decide))).mono ?_ | with_reducible refine (AddZ (K.below Q2 al1).f.zi (K.below Q2 al1).f.zi (l2.out.mono (by decide)) (l2.out.mono (by decide))).mono ?_ | with_reducible refine (AddZ (K.below Q2 al2).f.zi (K.below Q2 al2).f.zi (l2.out.mono (by decide)) (l2.out.mono (by decide))).mono ?_); rintro e u3 ⟨r6, C6, o6, e6, rfl, h6, hb3⟩; (first | ((with_reducible have H := se2 hN2 hb3); obtain ⟨hc3, qa, qb⟩ := H; have nab := (Nat.ne_of_lt (Nat.lt_succ_self u2.heap.size)); have nba := fun e => nab (Eq.symm e)) | ((with_reducible have H := se1 hN2 hb3); obtain ⟨hc3, q⟩ := H; (first | (have nab := Nat.ne_of_lt qa.lt; have nba := fun e => nab (Eq.symm e); have qb := q; replace qa := qa.step hc3) | have qa := q)) | (have hc3 := hb3; (try replace qa := qa.step hc3); (try replace qb := qb.step hc3))); have Q3 := K.below Q2 hc3; have hN3 := Nat.le_trans hN2 hc3.size; have hk30 := hid (Nr.cells Q3); have hk31 := hid (fun o : Obj => Nr.cells (K.below Q3 (al1 (o := o)))); have hk32 := hid (fun o p : Obj => Nr.cells (K.below Q3 (al2 (o := o) (p := p)))); replace h4 := h4.below hc3; replace h5 := h5.below hc3)
      | (go_at_call 52; (first | with_reducible refine (DivModZ h5.zi h6.zi (l4.out.mono (by decide)) (l5.out.mono (by decide)) Hnz.out).mono ?_ | with_reducible refine (DivModZ (h5.below al1).zi (h6.below al1).zi (l4.out.mono (by decide)) (l5.out.mono (by decide)) Hnz.out).mono ?_ | with_reducible refine (DivModZ (h5.below al2).zi (h6.below al2).zi (l4.out.mono (by decide)) (l5.out.mono (by decide)) Hnz.out).mono ?_); rintro e u4 ⟨r7, C7, o7, e7, r8, C8, o8, e8, rfl, h7, h8, hb4⟩; (first | ((with_reducible have H := se2 hN3 hb4); obtain ⟨hc4, qa, qb⟩ := H; have nab := (Nat.ne_of_lt (Nat.lt_succ_self u3.heap.size)); have nba := fun e => nab (Eq.symm e)) | ((with_reducible have H := se1 hN3 hb4); obtain ⟨hc4, q⟩ := H; (first | (have nab := Nat.ne_of_lt qa.lt; have nba := fun e => nab (Eq.symm e); have qb := q; replace qa := qa.step hc4) | have qa := q)) | (have hc4 := hb4; (try replace qa := qa.step hc4); (try replace qb := qb.step hc4))); have Q4 := K.below Q3 hc4; have hN4 := Nat.le_trans hN3 hc4.size; have hk40 := hid (Nr.cells Q4); have hk41 := hid (fun o : Obj => Nr.cells (K.below Q4 (al1 (o := o)))); have hk42 := hid (fun o p : Obj => Nr.cells (K.below Q4 (al2 (o := o) (p := p)))); replace h4 := h4.below hc4; replace h5 := h5.below hc4; replace h6 := h6.below hc4; (try have hsa := hid (fun (u0 u1 : Value) => Nr.cells (K.set (u := u0) (v := u1) Q4 qa))); (try have hsb := hid (fun (u0 u1 : Value) => Nr.cells (K.set (u := u0) (v := u1) Q4 qb))); (try have hsao := hid (fun (u0 u1 : Value) (o : Obj) => Nr.cells (K.below (K.set (u := u0) (v := u1) Q4 qa) (al1 (o := o))))); (try have hsab := hid (fun (u0 u1 v0 v1 : Value) => Nr.cells (K.set (u := v0) (v := v1) (K.set (u := u0) (v := u1) Q4 qa) (qb.set nba _ _)))); (try have hsba := hid (fun (u0 u1 v0 v1 : Value) => Nr.cells (K.set (u := v0) (v := v1) (K.set (u := u0) (v := u1) Q4 qb) (qa.set nab _ _)))); (try have lqa := qa.lt); (try obtain ⟨_, _, _, _⟩ := qa.1.c2); (try have lqb := qb.lt); (try obtain ⟨_, _, _, _⟩ := qb.1.c2)))
    all_goals
      (try clear lqa)
      (try clear lqb)
      go_wp2_with fail
      go_meet
      first
        | with_reducible exact two1 K Q4 h7 h8
        | with_reducible exact two2 K Q4 h7 h8
        | with_reducible exact two3 K Q4 h7 h8 qa
        | with_reducible exact two4 K Q4 h7 h8 qa
        | with_reducible exact two5 K Q4 h7 h8 qa qb nab
        | with_reducible exact two5 K Q4 h7 h8 qb qa nba
  case rest =>
    obtain ⟨g5, r, C, o, e1, g6, r', C', o', e1', rfl, rfl, j5, -, hM⟩ := hcut
    rw [Hh.out] at j5
    have j2 := hM.r
    have hz := j5.z
    have hB2 := hid hM.bl
    obtain ⟨x0, x1, -, -⟩ := j5.b.c2
    clear K Q hcells hM j5
    have hgl := Hg.out
    rename World => wc
    have h5 := hid ((hB2.out.setCell (p := ⟨g + 1, 0, none⟩) (by show w.heap.size ≤ g + 1; omega) (.bool r)).setCell (p := ⟨g + 1, 1, none⟩) (by show w.heap.size ≤ g + 1; omega) (.slice C o e1))
    have hN := hid (hz.offbox j2 (noInt_zero _ _ _ _) (gb2 _ (g + 1) 0 1 (.bool r) (.slice C o e1)))
    have hl3 := j2.lt
    obtain ⟨y0, y1, y2, y3⟩ := j2.c2
    clear j2 hz hgl
    go_wp2
    exact bodyPost_ret (v := .agg #[.bool r, .slice C o e1]) (by simp [results, Tryz.results30, go_sem, y0, y1]) rfl ⟨_, _, _, _, rfl, hN.out, h5.out⟩

end Go.Proofs.YtffipjofefemiaaGreatDoor
