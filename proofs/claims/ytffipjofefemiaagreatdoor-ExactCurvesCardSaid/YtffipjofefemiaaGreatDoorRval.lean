/- The contract of the reference's Value. For all valid curves of few starts, at fractions of few limbs. -/
import Derived.Test.YtffipjofefemiaaGreatDoorRpc
import Derived.Test.YtffipjofefemiaaGreatDoorLat
import Derived.Deep.DeepCutAuto
namespace Go.Proofs.YtffipjofefemiaaGreatDoor
open Go.RowKit Kb

structure Pv (w : World) (g B0 : Nat) (A : Option Addr) (n c : Nat) (B : Option Addr) (m d kc : Nat) (X : Nat → Int) (Q : Nat → Rat) (y1 : Bool) (Y1 : Option Addr) (ly1 cy1 : Nat) (y2 : Bool) (Y2 : Option Addr) (ly2 cy2 : Nat) (k : Nat) (y : Rat) (i : Nat) (bd : Addr) (s1 : Bool) (S1 : Option Addr) (ls1 cs1 : Nat) (s2 : Bool) (S2 : Option Addr) (ls2 cs2 : Nat) (q : Rat) (g5 : Nat) (o1 : Bool) (O1 : Option Addr) (lo1 co1 : Nat) (o2 : Bool) (O2 : Option Addr) (lo2 co2 : Nat) (ov : Rat) (wx : World) : Prop where
  al : Al w g B0 A n c B m d kc X Q y1 Y1 ly1 cy1 y2 Y2 ly2 cy2 k y wx
  el : El wx B0 bd i s1 S1 ls1 cs1 s2 S2 ls2 cs2 kc q
  jo : Jq wx g5 o1 O1 lo1 co1 o2 O2 lo2 co2 ov
section
variable {w : World} {g B0 : Nat} {A : Option Addr} {n c : Nat} {B : Option Addr} {m d kc : Nat} {X : Nat → Int} {Q : Nat → Rat} {y1 : Bool} {Y1 : Option Addr} {ly1 cy1 : Nat} {y2 : Bool} {Y2 : Option Addr} {ly2 cy2 : Nat} {k : Nat} {y : Rat} {i : Nat} {bd : Addr} {s1 : Bool} {S1 : Option Addr} {ls1 cs1 : Nat} {s2 : Bool} {S2 : Option Addr} {ls2 cs2 : Nat} {q : Rat} {g5 : Nat} {o1 : Bool} {O1 : Option Addr} {lo1 co1 : Nat} {o2 : Bool} {O2 : Option Addr} {lo2 co2 : Nat} {ov : Rat} {wx wy : World}
theorem Pv.below (h : Pv w g B0 A n c B m d kc X Q y1 Y1 ly1 cy1 y2 Y2 ly2 cy2 k y i bd s1 S1 ls1 cs1 s2 S2 ls2 cs2 q g5 o1 O1 lo1 co1 o2 O2 lo2 co2 ov wx) (hb : Below wx.heap.size wx wy) : Pv w g B0 A n c B m d kc X Q y1 Y1 ly1 cy1 y2 Y2 ly2 cy2 k y i bd s1 S1 ls1 cs1 s2 S2 ls2 cs2 q g5 o1 O1 lo1 co1 o2 O2 lo2 co2 ov wy := ⟨h.al.below hb, h.el.below hb, h.jo.below hb⟩
theorem Pv.cells (h : Pv w g B0 A n c B m d kc X Q y1 Y1 ly1 cy1 y2 Y2 ly2 cy2 k y i bd s1 S1 ls1 cs1 s2 S2 ls2 cs2 q g5 o1 O1 lo1 co1 o2 O2 lo2 co2 ov wx) : wx.cell? ⟨g, 0, none⟩ = some (.slice A n c) ∧ wx.cell? ⟨g, 1, none⟩ = some (.slice B m d) ∧ wx.cell? ⟨g + 1, 0, none⟩ = some (.bool y1) ∧ wx.cell? ⟨g + 1, 1, none⟩ = some (.slice Y1 ly1 cy1) ∧ wx.cell? ⟨g + 1, 2, none⟩ = some (.bool y2) ∧ wx.cell? ⟨g + 1, 3, none⟩ = some (.slice Y2 ly2 cy2) ∧ wx.cell? (bd.add (i * 4)) = some (.bool s1) ∧ wx.cell? ⟨(bd.add (i * 4)).block, (bd.add (i * 4)).off + 1, none⟩ = some (.slice S1 ls1 cs1) ∧ wx.cell? ⟨(bd.add (i * 4)).block, (bd.add (i * 4)).off + 2, none⟩ = some (.bool s2) ∧ wx.cell? ⟨(bd.add (i * 4)).block, (bd.add (i * 4)).off + 3, none⟩ = some (.slice S2 ls2 cs2) ∧ wx.cell? ⟨g5, 0, none⟩ = some (.bool o1) ∧ wx.cell? ⟨g5, 1, none⟩ = some (.slice O1 lo1 co1) ∧ wx.cell? ⟨g5, 2, none⟩ = some (.bool o2) ∧ wx.cell? ⟨g5, 3, none⟩ = some (.slice O2 lo2 co2) :=
  ⟨h.al.jc.c2.1, h.al.jc.c2.2.1, h.al.jy.c4.1, h.al.jy.c4.2.1, h.al.jy.c4.2.2.1, h.al.jy.c4.2.2.2.1, h.el.q0, h.el.q1, h.el.q2, h.el.q3, h.jo.b.c4.1, h.jo.b.c4.2.1, h.jo.b.c4.2.2.1, h.jo.b.c4.2.2.2.1⟩
end

theorem pc_ql {n k : Nat} {X : Nat → Int} {Q : Nat → Rat} (h : Okc n X Q) {i : Nat} (hi : i < n) {y : Rat} (hy : QL k y) (hk : 2 ≤ k) : QL (k + 3) (Kc.pc n X i y) := by
  unfold Kc.pc
  split
  · exact QL.zero _ (by omega)
  · split
    · rename_i h2
      exact (h.gapql h2.1).mono (by omega)
    · exact (hy.sub (h.ql hi)).mono (by omega)
theorem vs_ql {n kc k : Nat} {X : Nat → Int} {Q : Nat → Rat} (h : Okc n X Q) (hq : ∀ i, i < n → QL kc (Q i)) {y : Rat} (hy : QL k y) (hk : 2 ≤ k) {i : Nat} (hi : i ≤ n) : QL (1 + i * (kc + k + 4)) (Kc.sm (fun j => Q j * Kc.pc n X j y) i) := by
  induction i with
  | zero => rw [Nat.zero_mul]; exact QL.zero _ (by decide)
  | succ i ih =>
    have e : Kc.sm (fun j => Q j * Kc.pc n X j y) (i + 1) = Kc.sm (fun j => Q j * Kc.pc n X j y) i + Q i * Kc.pc n X i y := rfl
    rw [e]
    exact ((ih (by omega)).add ((hq i (by omega)).mul (pc_ql h (by omega) hy hk))).mono (by rw [Nat.succ_mul]; omega)
set_option maxRecDepth 100000 in
set_option maxHeartbeats 80000000 in
theorem rValue {w : World} {A : Option Addr} {n c : Nat} {B : Option Addr} {d B0 kc k : Nat} {X : Nat → Int} {Q : Nat → Rat} {y : Rat} {y1 : Bool} {Y1 : Option Addr} {ly1 cy1 : Nat} {y2 : Bool} {Y2 : Option Addr} {ly2 cy2 : Nat} (h : Cv w B0 A n B n kc X Q) (ok : Okc n X Q) (k0 : Ri w y1 Y1 ly1 cy1 y2 Y2 ly2 cy2 k y) (hkc : 0 < kc) (hk0 : 2 ≤ k) (hsz : kc + k ≤ 26) (hT : Tb w) :
    Calls Tryz.prog 42 #[.agg #[.slice A n c, .slice B n d], .agg #[.bool y1, .slice Y1 ly1 cy1, .bool y2, .slice Y2 ly2 cy2]] w fun e w' => ∃ t1 T1 lt1 ct1 t2 T2 lt2 ct2, e = .returned (.agg #[.bool t1, .slice T1 lt1 ct1, .bool t2, .slice T2 lt2 ct2]) ∧ Qf w' t1 T1 lt1 ct1 t2 T2 lt2 ct2 (Kc.vl n X Q y) ∧ Below w.heap.size w w' := by
  have b0 := three_new w (.cells #[.slice A n c, .slice B n d] 48) (.cells #[.bool y1, .slice Y1 ly1 cy1, .bool y2, .slice Y2 ly2 cy2] 26) (.cells #[.bool false, .slice none 0 0, .bool false, .slice none 0 0] 26)
  have hB := (((Below.refl w.heap.size w).alloc (Nat.le_refl _) (.cells #[.slice A n c, .slice B n d] 48)).alloc (by simp) (.cells #[.bool y1, .slice Y1 ly1 cy1, .bool y2, .slice Y2 ly2 cy2] 26)).alloc (by simp; omega) (.cells #[.bool false, .slice none 0 0, .bool false, .slice none 0 0] 26)
  obtain ⟨g, hg⟩ : ∃ g, w.heap.size = g := ⟨_, rfl⟩
  have hw1 := k0.h1
  have hw2 := k0.h2
  have hn12 := ok.few
  have hqQ : ∀ i, i < n → QL kc (Q i) := fun i hi => by
    obtain ⟨_, _, _, _, _, _, _, _, _, _, _, _, _, _, _, hr⟩ := h.q i hi
    exact hr.q.ql hkc
  have HQ := hid hqQ
  have LY := k0.q.ql (show 0 < k by omega)
  go_enter Tryz.func42, Tryz.ntmps42
  go_wp2_with fail
  rw [hg] at b0
  generalize ((w.alloc (.cells #[.slice A n c, .slice B n d] 48)).alloc (.cells #[.bool y1, .slice Y1 ly1 cy1, .bool y2, .slice Y2 ly2 cy2] 26)).alloc (.cells #[.bool false, .slice none 0 0, .bool false, .slice none 0 0] 26) = W0 at *
  have hle := h.le
  have hTl := hT.2
  have P0 : Al w g B0 A n c B n d kc X Q y1 Y1 ly1 cy1 y2 Y2 ly2 cy2 k y W0 := ⟨h.below hB, b0.1, b0.2.1, b0.2.2, k0.q.below hB, hT.below hB, hB⟩
  have OK := hid ok
  have Hg := hid (show w.heap.size = g ∧ B0 ≤ g ∧ 0 < g from ⟨hg, by omega, by omega⟩)
  clear h k0 hT hB hg b0 ok hle hTl hqQ
  refine (rQ 0 _ (by decide) (by decide)).mono ?_
  rintro e w1 ⟨o1, O1, lo1, co1, o2, O2, lo2, co2, rfl, hq0, hb1⟩
  have P1 := (P0.below hb1).below (alo (o := (.cells #[.bool o1, .slice O1 lo1 co1, .bool o2, .slice O2 lo2 co2] 26)))
  have j5 := Jq.made hq0
  have hg5 : g + 1 + 1 < w1.heap.size := (P0.below hb1).jr.lt
  clear P0 hb1 hq0
  go_upto_region 2 with fail
  generalize w1.alloc (.cells #[.bool o1, .slice O1 lo1 co1, .bool o2, .slice O2 lo2 co2] 26) = W1 at *
  generalize w1.heap.size = g5 at *
  go_wp2
  go_loopw [6] (fun iv wr => ∃ (i : Nat) (o1 : Bool) (O1 : Option Addr) (lo1 co1 : Nat) (o2 : Bool) (O2 : Option Addr) (lo2 co2 : Nat), i ≤ n ∧ iv = .int .i64 ((i : Nat) : Int) ∧ Al w g B0 A n c B n d kc X Q y1 Y1 ly1 cy1 y2 Y2 ly2 cy2 k y wr ∧ Jq wr g5 o1 O1 lo1 co1 o2 O2 lo2 co2 (Kc.sm (fun j => Q j * Kc.pc n X j y) i)) (fun iv _ => n - (intOf iv).toNat)
  case atStart => exact ⟨0, o1, O1, lo1, co1, o2, O2, lo2, co2, Nat.zero_le _, rfl, P1, j5⟩
  case round =>
    obtain ⟨i, o1, O1, lo1, co1, o2, O2, lo2, co2, hi', rfl, P, jo⟩ := hrel
    clear P1 j5
    obtain ⟨x0, x1, -, -⟩ := P.jc.c2
    by_cases hi : i < n
    · obtain ⟨bd, s1, S1, ls1, cs1, s2, S2, ls2, cs2, hBd, el⟩ := P.cv.el hi
      have LP := pc_ql OK.out hi LY hk0
      have LO := vs_ql OK.out HQ.out LY hk0 hi'
      have Hk := hid (show i * (kc + k + 4) ≤ 11 * 30 from Nat.mul_le_mul (by omega) (by omega))
      have hk1 : 1 + i * (kc + k + 4) ≤ 400 := by have := Hk.out; omega
      have LS := HQ.out i hi
      subst hBd
      go_upto_region 5 with fail
      have Q0 : Pv w g B0 A n c (some bd) n d kc X Q y1 Y1 ly1 cy1 y2 Y2 ly2 cy2 k y i bd s1 S1 ls1 cs1 s2 S2 ls2 cs2 (Q i) g5 o1 O1 lo1 co1 o2 O2 lo2 co2 (Kc.sm (fun j => Q j * Kc.pc n X j y) i) wr.drew := Pv.below ⟨P, el, jo⟩ (dr0 (W := wr))
      clear P el jo x0 x1
      refine wp_region_late 12 (fun w' => w'.cell? ⟨g, 0, none⟩ = some (.slice A n c) ∧ w'.cell? ⟨g, 1, none⟩ = some (.slice (some bd) n d) ∧ w'.cell? ⟨g + 1, 0, none⟩ = some (.bool y1) ∧ w'.cell? ⟨g + 1, 1, none⟩ = some (.slice Y1 ly1 cy1) ∧ w'.cell? ⟨g + 1, 2, none⟩ = some (.bool y2) ∧ w'.cell? ⟨g + 1, 3, none⟩ = some (.slice Y2 ly2 cy2) ∧ w'.cell? (bd.add (i * 4)) = some (.bool s1) ∧ w'.cell? ⟨(bd.add (i * 4)).block, (bd.add (i * 4)).off + 1, none⟩ = some (.slice S1 ls1 cs1) ∧ w'.cell? ⟨(bd.add (i * 4)).block, (bd.add (i * 4)).off + 2, none⟩ = some (.bool s2) ∧ w'.cell? ⟨(bd.add (i * 4)).block, (bd.add (i * 4)).off + 3, none⟩ = some (.slice S2 ls2 cs2) ∧ w'.cell? ⟨g5, 0, none⟩ = some (.bool o1) ∧ w'.cell? ⟨g5, 1, none⟩ = some (.slice O1 lo1 co1) ∧ w'.cell? ⟨g5, 2, none⟩ = some (.bool o2) ∧ w'.cell? ⟨g5, 3, none⟩ = some (.slice O2 lo2 co2)) (by kernel_rfl) (by with_reducible exact Pv.cells Q0) (fun hHeld => ?_)
      refine wpLate_take 0 [0, 12] (v := ?_) rfl (by kernel_rfl) (by kernel_rfl) (by kernel_rfl) (fun _ _ _ h => h) (by kernel_rfl) (by kernel_rfl) (Or.inl ⟨by rfl, ?_⟩) hHeld ?_
      rotate_left
      · intro w hSw
        (try dsimp only at hSw)
        go_simp
        (try with_reducible rfl)
      (try simp only [Act.put, List.setIfInBounds_toArray, List.set_cons_zero, List.set_cons_succ])
      refine wpLate_take 1 [1, 12] (v := ?_) rfl (by kernel_rfl) (by kernel_rfl) (by kernel_rfl) (fun _ _ _ h => h) (by kernel_rfl) (by kernel_rfl) (Or.inl ⟨by rfl, ?_⟩) hHeld ?_
      rotate_left
      · intro w hSw
        (try dsimp only at hSw)
        go_simp
        (try with_reducible rfl)
      (try simp only [Act.put, List.setIfInBounds_toArray, List.set_cons_zero, List.set_cons_succ])
      refine wpLate_take 2 [2, 12] (v := ?_) rfl (by kernel_rfl) (by kernel_rfl) (by kernel_rfl) (fun _ _ _ h => h) (by kernel_rfl) (by kernel_rfl) (Or.inl ⟨by rfl, ?_⟩) hHeld ?_
      rotate_left
      · intro w hSw
        (try dsimp only at hSw)
        go_simp
        (try with_reducible rfl)
      (try simp only [Act.put, List.setIfInBounds_toArray, List.set_cons_zero, List.set_cons_succ])
      refine wpLate_take 3 [3, 12] (v := ?_) rfl (by kernel_rfl) (by kernel_rfl) (by kernel_rfl) (fun _ _ _ h => h) (by kernel_rfl) (by kernel_rfl) (Or.inl ⟨by rfl, ?_⟩) hHeld ?_
      rotate_left
      · intro w hSw
        (try dsimp only at hSw)
        go_simp
        (try with_reducible rfl)
      (try simp only [Act.put, List.setIfInBounds_toArray, List.set_cons_zero, List.set_cons_succ])
      refine wpLate_take 4 [4, 12] (v := ?_) rfl (by kernel_rfl) (by kernel_rfl) (by kernel_rfl) (fun _ _ _ h => h) (by kernel_rfl) (by kernel_rfl) (Or.inl ⟨by rfl, ?_⟩) hHeld ?_
      rotate_left
      · intro w hSw
        (try dsimp only at hSw)
        go_simp
        (try with_reducible rfl)
      (try simp only [Act.put, List.setIfInBounds_toArray, List.set_cons_zero, List.set_cons_succ])
      refine wpLate_take 5 [5, 12] (v := ?_) rfl (by kernel_rfl) (by kernel_rfl) (by kernel_rfl) (fun _ _ _ h => h) (by kernel_rfl) (by kernel_rfl) (Or.inl ⟨by rfl, ?_⟩) hHeld ?_
      rotate_left
      · intro w hSw
        (try dsimp only at hSw)
        go_simp
        (try with_reducible rfl)
      (try simp only [Act.put, List.setIfInBounds_toArray, List.set_cons_zero, List.set_cons_succ])
      refine wpLate_take 6 [6, 12] (v := ?_) rfl (by kernel_rfl) (by kernel_rfl) (by kernel_rfl) (fun _ _ _ h => h) (by kernel_rfl) (by kernel_rfl) (Or.inl ⟨by rfl, ?_⟩) hHeld ?_
      rotate_left
      · intro w hSw
        (try dsimp only at hSw)
        go_simp
        (try with_reducible rfl)
      (try simp only [Act.put, List.setIfInBounds_toArray, List.set_cons_zero, List.set_cons_succ])
      refine wpLate_take 7 [7, 12] (v := ?_) rfl (by kernel_rfl) (by kernel_rfl) (by kernel_rfl) (fun _ _ _ h => h) (by kernel_rfl) (by kernel_rfl) (Or.inl ⟨by rfl, ?_⟩) hHeld ?_
      rotate_left
      · intro w hSw
        (try dsimp only at hSw)
        go_simp
        (try with_reducible rfl)
      (try simp only [Act.put, List.setIfInBounds_toArray, List.set_cons_zero, List.set_cons_succ])
      refine wpLate_take 8 [8, 12] (v := ?_) rfl (by kernel_rfl) (by kernel_rfl) (by kernel_rfl) (fun _ _ _ h => h) (by kernel_rfl) (by kernel_rfl) (Or.inl ⟨by rfl, ?_⟩) hHeld ?_
      rotate_left
      · intro w hSw
        (try dsimp only at hSw)
        go_simp
        (try with_reducible rfl)
      (try simp only [Act.put, List.setIfInBounds_toArray, List.set_cons_zero, List.set_cons_succ])
      refine wpLate_one 9 (by kernel_rfl) rfl (fun K hK => ?_)
      go_simp
      with_reducible refine (rpiece Q0.al.cv OK.out hi (Ri.mk Q0.al.qy hw1 hw2) hk0 (by omega) Q0.al.tb).mono ?_
      rintro e wv1 ⟨r1, R1', o3, e1', r2, R2', o4, e2', rfl, h4, hb1⟩
      have Q1 := Q0.below hb1
      clear hHeld
      refine hK.out _ _ (by with_reducible exact Pv.cells Q1) (fun hHeld => ?_)
      clear hK K
      (try simp only [Act.put, List.setIfInBounds_toArray, List.set_cons_zero, List.set_cons_succ])
      refine wpLate_one 10 (by kernel_rfl) rfl (fun K hK => ?_)
      go_simp
      with_reducible refine (rMulRat Q1.el.r (h4.ri LP (by omega)) hkc (by omega) (by omega) (by omega)).mono ?_
      rintro e wv2 ⟨r3, R3', o5, e3', r4, R4', o6, e4', rfl, h5, hb2⟩
      have Q2 := Q1.below hb2
      clear hHeld
      refine hK.out _ _ (by with_reducible exact Pv.cells Q2) (fun hHeld => ?_)
      clear hK K
      (try simp only [Act.put, List.setIfInBounds_toArray, List.set_cons_zero, List.set_cons_succ])
      refine wpLate_one 11 (by kernel_rfl) rfl (fun K hK => ?_)
      go_simp
      with_reducible refine (rAddRat (Q2.jo.z.ri LO (by omega)) (h5.ri (LS.mul LP) (by omega)) (by omega) (by omega) hk1 (by omega)).mono ?_
      rintro e wv3 ⟨t1, T1, lt1, ct1, t2, T2, lt2, ct2, rfl, hq, hb3⟩
      have Q3 := Q2.below hb3
      obtain ⟨a0, a1, a2, a3, f0, f1, f2, f3⟩ := Q3.jo.b.c4
      have hlo := Q3.jo.b.lt
      clear hHeld
      refine hK.out _ _ (by with_reducible exact Pv.cells Q3) (fun hHeld => ?_)
      clear hK K
      (try simp only [Act.put, List.setIfInBounds_toArray, List.set_cons_zero, List.set_cons_succ])
      clear hHeld
      refine wpLate_last 12 rfl (by kernel_rfl) (by kernel_rfl) rfl (fun K hK => ?_)
      go_simp
      refine hK.out _ _ ?_
      clear hK K
      (try simp only [Act.put, List.setIfInBounds_toArray, List.set_cons_zero, List.set_cons_succ])
      have HP := hid (Q3.al.offb Q3.jo.b (noInt_four _ _ _ _ _ _ _ _) (gb4' wv3 g5 (.bool t1) (.slice T1 lt1 ct1) (.bool t2) (.slice T2 lt2 ct2)) ⟨Hg.out.1, Hg.out.2.1, hg5, Nat.lt_trans Hg.out.2.2 (by omega)⟩)
      have HJ := hid (Q3.jo.put2 hq)
      clear a0 a1 a2 a3 f0 f1 f2 f3 hlo Q0 Q1 Q2 Q3 hq h4 h5 hb1 hb2 hb3
      go_wp2
      go_roundw
      case rel => exact ⟨i + 1, t1, T1, lt1, ct1, t2, T2, lt2, ct2, by omega, by go_num, HP.out, HJ.out⟩
      case measure => simp [intOf]; omega
    · have hin : n = i := by omega
      subst hin
      have j2 := P.jr
      have hl7 := j2.lt
      obtain ⟨i0, i1, i2, i3, i4, i5, i6, i7⟩ := j2.c4
      obtain ⟨y0, y1', y2', y3, -, -, -, -⟩ := jo.b.c4
      have h11 := hid (below4 P.bl (show w.heap.size ≤ g + 1 + 1 by have := Hg.out.1; omega) (.bool o1) (.slice O1 lo1 co1) (.bool o2) (.slice O2 lo2 co2))
      have m1 := hid (jo.z.offbox j2 (noInt_four _ _ _ _ _ _ _ _) (gb4' _ _ (.bool o1) (.slice O1 lo1 co1) (.bool o2) (.slice O2 lo2 co2)))
      clear P jo j2
      go_wp2
      exact bodyPost_ret (v := .agg #[.bool o1, .slice O1 lo1 co1, .bool o2, .slice O2 lo2 co2]) (by simp [results, Tryz.results42, go_sem, i0, i1, i2, i3]) rfl ⟨_, _, _, _, _, _, _, _, rfl, m1.out, h11.out⟩

end Go.Proofs.YtffipjofefemiaaGreatDoor
