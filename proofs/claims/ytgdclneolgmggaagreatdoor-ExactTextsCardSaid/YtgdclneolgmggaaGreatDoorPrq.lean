/- ParseRat: the fraction that a text is, or the error. For all texts of at most nine hundred bytes. -/
import Derived.Test.YtgdclneolgmggaaGreatDoorPqm
namespace Go.Proofs.YtgdclneolgmggaaGreatDoor
open Go.RowKit Kb Go.Lib

theorem rz_len {l : List UInt8} (h : l.length ≤ 900) (hd : ∀ b ∈ st l, isD b) : Le 1000 (rz l) := by
  refine rz_le (rd_cut (k := 1000) hd ?_)
  have := st_len l
  omega

set_option maxRecDepth 100000 in
set_option maxHeartbeats 8000000 in
theorem ParseRat_any (s : ByteArray) (w : World) (hs : s.size ≤ 900) (hT : Tb w) (ht : Tp w) (hM : Mx w) :
    Calls Tryz.prog 11 #[.string s] w fun e w' => Psq w (bl s) e w' := by
  have b0 := heap_alloc_new w (.cells #[.bool false, .slice none 0 0, .bool false, .slice none 0 0] 26)
  have hB := al1' w (.cells #[.bool false, .slice none 0 0, .bool false, .slice none 0 0] 26)
  obtain ⟨g, hg0⟩ : ∃ g, w.heap.size = g := ⟨_, rfl⟩
  by_cases hbig : 800 < s.size
  · have hfin := hid hB
    rw [hg0] at b0
    obtain ⟨x0, x1, x2, x3, x4, x5, x6, x7⟩ := cells4 b0
    have hgl : g < (w.alloc (.cells #[.bool false, .slice none 0 0, .bool false, .slice none 0 0] 26)).heap.size := (Array.getElem?_eq_some_iff.1 b0).1
    have B0 := hid b0
    clear b0 hB hT ht hM
    go_enter Tryz.func11, Tryz.ntmps11
    go_wp2
    exact bodyPost_ret (v := .tuple #[.agg #[.bool false, .slice none 0 0, .bool false, .slice none 0 0], .int .i64 8]) (by simp [results, Tryz.results11, go_sem, x0, x1, x2, x3]) rfl ⟨false, none, 0, 0, false, none, 0, 0, 8, rfl, hfin.out, .inr ⟨zn_zero _, zn_zero _, .inl ⟨by rw [bl_len]; exact hbig, rfl⟩⟩⟩
  · go_enter Tryz.func11, Tryz.ntmps11
    go_wp2_with (go_at_call 50; fail)
    rw [hg0] at b0
    generalize w.alloc (.cells #[.bool false, .slice none 0 0, .bool false, .slice none 0 0] 26) = W0 at *
    have M0 := hM.below hB
    have T0 := hT.below hB
    have P0 := ht.below hB
    have HB := hid hB
    have Hg0 := hid hg0
    have hgl : g < W0.heap.size := (Array.getElem?_eq_some_iff.1 b0).1
    have B0 := hid (show Bk W0 g _ from b0)
    clear hB hg0 b0 hT ht hM
    have hlen := cutS_len (bl s)
    rw [bl_len] at hlen
    go_wp2_with (go_at_call 50; refine (cutCall s _ M0 (by omega)).mono ?_; rintro e w1 ⟨sa, sb, f, rfl, ha, hb, hf, hb1⟩; have C1 := hid hb1; clear hb1 M0)
    · obtain ⟨db, hdb⟩ : ∃ db : ByteArray, (⟨#[49]⟩ : ByteArray) = db := ⟨_, rfl⟩
      rw [hdb]
      have hd : Hid (bl db = den (bl s)) := by
        refine hid ?_
        have hf0 : (cutS (bl s)).2 = none := by
          cases hc : (cutS (bl s)).2 with
          | none => rfl
          | some r => have := hf.out; rw [hc] at this; simp_all
        unfold den
        rw [hf0, ← hdb]
      have hdbs : db.size ≤ 900 := by rw [← hdb]; decide
      clear hdb
      have hsa : sa.size ≤ 900 := by rw [← bl_len, ha.out]; omega
      have hl1 : (bl sa).length ≤ 900 := by rw [bl_len]; exact hsa
      have hl2 : (bl db).length ≤ 900 := by rw [bl_len]; exact hdbs
      refine (rdi_any sa w1 (by omega)).mono ?_
      rintro e w2 ⟨p1, A1, n1, c1, z1, r1, rfl, hr1, hz1, hb2⟩
      have HR1 := hid hr1
      have hal3 := al1' w2 (.cells #[.bool p1, .slice A1 n1 c1] 24)
      have b7 := hid (show Bk _ _ _ from heap_alloc_new w2 (.cells #[.bool p1, .slice A1 n1 c1] 24))
      have C3 := hid (bthen (bthen C1.out hb2 (Nat.le_refl _)) hal3 (Nat.le_refl _))
      have Hz1 := hid (hz1.below hal3)
      clear hr1 hz1 hb2 hal3
      go_wp2_with (go_at_call 45; fail)
      generalize w2.alloc (.cells #[.bool p1, .slice A1 n1 c1] 24) = W3 at *
      generalize w2.heap.size = g7 at *
      refine (rdi_any db W3 (by omega)).mono ?_
      rintro e w4 ⟨p2, A2, n2, c2, z2, r2, rfl, hr2, hz2, hb4⟩
      have HR2 := hid hr2
      have hal5 := al1' w4 (.cells #[.bool p2, .slice A2 n2 c2] 24)
      have b9 := hid (show Bk _ _ _ from heap_alloc_new w4 (.cells #[.bool p2, .slice A2 n2 c2] 24))
      have hb45 := bthen hb4 hal5 (Nat.le_refl _)
      have B7 := hid (b7.out.step hb45)
      have C5 := hid (bthen C3.out hb45 (Nat.le_refl _))
      have Z1 := hid (Hz1.out.below hb45)
      have Z2 := hid (hz2.below hal5)
      clear hr2 hz2 hb4 hal5 hb45 b7 Hz1 C3
      have HBG := hid (B0.out.step C5.out)
      have HSZ := hid (Nat.lt_of_lt_of_le hgl C5.out.size)
      by_cases hok : Good (bl sa) ∧ Good (bl db)
      · have e1 : r1 = 0 ∧ z1 = rz (bl sa) := by
          rcases HR1.out with ⟨_, h2, h3⟩ | ⟨h1, _, _⟩
          · exact ⟨h2, h3⟩
          · exact absurd hok.1 h1
        have e2 : r2 = 0 ∧ z2 = rz (bl db) := by
          rcases HR2.out with ⟨_, h2, h3⟩ | ⟨h1, _, _⟩
          · exact ⟨h2, h3⟩
          · exact absurd hok.2 h1
        obtain ⟨rfl, rfl⟩ := e1
        obtain ⟨rfl, rfl⟩ := e2
        have LN := hid (rz_len hl1 hok.1.1.2.1)
        have LD := hid (rz_len hl2 hok.2.1.2.1)
        have hxq : rv (rz (bl sa)) (rz (bl db)) = xq (bl s) := by unfold xq; rw [ha.out, hd.out]
        have hqi : Hid (Qi (w4.alloc (.cells #[.bool p2, .slice A2 n2 c2] 24)) p1 A1 n1 c1 p2 A2 n2 c2 1000 (xq (bl s))) := hid ⟨⟨_, _, Z1.out.zi, Z2.out.zi, hxq, LN.out, LD.out⟩⟩
        have hql : QL 1000 (xq (bl s)) := by rw [← hxq]; exact rv_ql (by decide) LN.out LD.out
        have HQL := hid hql
        clear HR1 HR2 Z1 Z2 hxq hql hok
        go_upto_region 8 with fail
        generalize w4.alloc (.cells #[.bool p2, .slice A2 n2 c2] 24) = W5 at *
        generalize w4.heap.size = g9 at *
        obtain ⟨u0, u1, _, _⟩ := B7.out.c2
        obtain ⟨v0, v1, _, _⟩ := b9.out.c2
        have T5 := hid (T0.below C5.out)
        have P5 := hid (P0.below C5.out)
        go_wp2_with (go_at_call 43; fail)
        refine (normal_q hqi.out (by decide) (by decide) T5.out).mono ?_
        rintro e w6 ⟨q1, E1, o1, d1, q2, E2, o2, d2, rfl, hq, hb6⟩
        have hal7 := al1' w6 (.cells #[.bool q1, .slice E1 o1 d1, .bool q2, .slice E2 o2 d2] 26)
        have b11 := hid (show Bk _ _ _ from heap_alloc_new w6 (.cells #[.bool q1, .slice E1 o1 d1, .bool q2, .slice E2 o2 d2] 26))
        have hb67 := bthen hb6 hal7 (Nat.le_refl _)
        have HQ7 := hid (hq.below hal7)
        have T7 := hid (T5.out.below hb67)
        have P7 := hid (P5.out.below hb67)
        have C7 := hid (bthen C5.out hb67 (Nat.le_refl _))
        clear hq hb6 hal7 hb67 u0 u1 v0 v1
        obtain ⟨F, hF⟩ : ∃ F, Hid ((⟨(fq (xq (bl s))).toArray⟩ : ByteArray) = F) := ⟨_, rfl⟩
        obtain ⟨C, hC⟩ : ∃ C : Bool, (F.toList == s.toList) = C := ⟨_, rfl⟩
        have HC := hid (show C = true ↔ fq (xq (bl s)) = bl s by rw [← hC, beq_iff_eq, tl_eq, tl_eq, ← hF.out, bl_of])
        cases C with
        | true =>
          have hgood := hid (HC.out.1 rfl)
          go_wp2_with (go_at_call 8; fail)
          generalize w6.alloc (.cells #[.bool q1, .slice E1 o1 d1, .bool q2, .slice E2 o2 d2] 26) = W7 at *
          generalize w6.heap.size = g11 at *
          refine (FormatRat_any (HQ7.out.qi HQL.out) (by decide) (by decide) HQL.out T7.out P7.out).mono ?_
          rintro e w8 ⟨rfl, hb8⟩
          rw [hF.out]
          have C8 := bthen C7.out hb8 (Nat.le_refl _)
          have bg := hid (B0.out.step C8)
          have hg8 := Nat.lt_of_lt_of_le hgl C8.size
          obtain ⟨x0, x1, x2, x3, x4, x5, x6, x7⟩ := bg.out.c4
          obtain ⟨t0, t1, t2, t3, t4, t5, t6, t7⟩ := (b11.out.step hb8).c4
          have hfz := hid (below4 (bthen HB.out C8 (Nat.le_refl _)) (show w.heap.size ≤ g by have := Hg0.out; omega) (.bool q1) (.slice E1 o1 d1) (.bool q2) (.slice E2 o2 d2))
          have hm8 := hid ((HQ7.out.below hb8).offbox bg.out (noInt_four _ _ _ _ _ _ _ _) (gb4' _ _ (.bool q1) (.slice E1 o1 d1) (.bool q2) (.slice E2 o2 d2)))
          clear hb8 C8
          go_wp2
          exact bodyPost_ret (v := .tuple #[.agg #[.bool q1, .slice E1 o1 d1, .bool q2, .slice E2 o2 d2], .int .i64 0]) (by simp [results, Tryz.results11, go_sem, x0, x1, x2, x3]) rfl ⟨q1, E1, o1, d1, q2, E2, o2, d2, 0, rfl, hfz.out, .inl ⟨rfl, by rw [bl_len]; omega, hgood.out, hm8.out⟩⟩
        | false =>
          have hne := hid (show fq (xq (bl s)) ≠ bl s from fun h => by have := HC.out.2 h; cases this)
          go_wp2_with (go_at_call 8; fail)
          generalize w6.alloc (.cells #[.bool q1, .slice E1 o1 d1, .bool q2, .slice E2 o2 d2] 26) = W7 at *
          generalize w6.heap.size = g11 at *
          refine (FormatRat_any (HQ7.out.qi HQL.out) (by decide) (by decide) HQL.out T7.out P7.out).mono ?_
          rintro e w8 ⟨rfl, hb8⟩
          rw [hF.out]
          have C8 := bthen C7.out hb8 (Nat.le_refl _)
          have bg := hid (B0.out.step C8)
          have hg8 := Nat.lt_of_lt_of_le hgl C8.size
          obtain ⟨x0, x1, x2, x3, x4, x5, x6, x7⟩ := bg.out.c4
          obtain ⟨t0, t1, t2, t3, t4, t5, t6, t7⟩ := (b11.out.step hb8).c4
          have hfz := hid (below4 (bthen HB.out C8 (Nat.le_refl _)) (show w.heap.size ≤ g by have := Hg0.out; omega) (.bool false) (.slice none 0 0) (.bool false) (.slice none 0 0))
          have hm8 := hid ((HQ7.out.below hb8).offbox bg.out (noInt_four _ _ _ _ _ _ _ _) (gb4' _ _ (.bool false) (.slice none 0 0) (.bool false) (.slice none 0 0)))
          clear hb8 C8
          go_wp2
          exact bodyPost_ret (v := .tuple #[.agg #[.bool false, .slice none 0 0, .bool false, .slice none 0 0], .int .i64 7]) (by simp [results, Tryz.results11, go_sem, x0, x1, x2, x3]) rfl ⟨false, none, 0, 0, false, none, 0, 0, 7, rfl, hfz.out, .inr ⟨zn_zero _, zn_zero _, .inr ⟨by rw [bl_len]; omega, hne.out, rfl⟩⟩⟩
      · have hne := hid (show fq (xq (bl s)) ≠ bl s from fun h => by
          have := good_parts h
          rw [← ha.out, ← hd.out] at this
          exact hok this)
        have hbad : (r1 = 7 ∧ (r2 = 0 ∨ r2 = 7)) ∨ (r1 = 0 ∧ r2 = 7) := by
          rcases HR1.out with ⟨g1, h2, _⟩ | ⟨g1, h2, _⟩ <;> rcases HR2.out with ⟨k1, k2, _⟩ | ⟨k1, k2, _⟩
          · exact absurd ⟨g1, k1⟩ hok
          · exact .inr ⟨h2, k2⟩
          · exact .inl ⟨h2, .inl k2⟩
          · exact .inl ⟨h2, .inr k2⟩
        clear HR1 HR2 Z1 Z2 hok
        have hfz := hid (below4 (bthen HB.out C5.out (Nat.le_refl _)) (show w.heap.size ≤ g by have := Hg0.out; omega) (.bool false) (.slice none 0 0) (.bool false) (.slice none 0 0))
        rcases hbad with ⟨rfl, rfl | rfl⟩ | ⟨rfl, rfl⟩
        all_goals
          go_upto_region 8 with fail
          generalize w4.alloc (.cells #[.bool p2, .slice A2 n2 c2] 24) = W5 at *
          generalize w4.heap.size = g9 at *
          have hg5 := HSZ.out
          obtain ⟨x0, x1, x2, x3, x4, x5, x6, x7⟩ := HBG.out.c4
          go_wp2
          exact bodyPost_ret (v := .tuple #[.agg #[.bool false, .slice none 0 0, .bool false, .slice none 0 0], .int .i64 7]) (by simp [results, Tryz.results11, go_sem, x0, x1, x2, x3]) rfl ⟨false, none, 0, 0, false, none, 0, 0, 7, rfl, hfz.out, .inr ⟨zn_zero _, zn_zero _, .inr ⟨by rw [bl_len]; omega, hne.out, rfl⟩⟩⟩
    · obtain ⟨db, hdb⟩ : ∃ db : ByteArray, sb = db := ⟨_, rfl⟩
      rw [hdb]
      have hd : Hid (bl db = den (bl s)) := by
        refine hid ?_
        unfold den
        rw [← hdb, hb.out]
        cases hc : (cutS (bl s)).2 with
        | none => have := hf.out; rw [hc] at this; simp_all
        | some r => rfl
      have hdbs : db.size ≤ 900 := by rw [← hdb, ← bl_len, hb.out]; omega
      clear hdb
      have hsa : sa.size ≤ 900 := by rw [← bl_len, ha.out]; omega
      have hl1 : (bl sa).length ≤ 900 := by rw [bl_len]; exact hsa
      have hl2 : (bl db).length ≤ 900 := by rw [bl_len]; exact hdbs
      refine (rdi_any sa w1 (by omega)).mono ?_
      rintro e w2 ⟨p1, A1, n1, c1, z1, r1, rfl, hr1, hz1, hb2⟩
      have HR1 := hid hr1
      have hal3 := al1' w2 (.cells #[.bool p1, .slice A1 n1 c1] 24)
      have b7 := hid (show Bk _ _ _ from heap_alloc_new w2 (.cells #[.bool p1, .slice A1 n1 c1] 24))
      have C3 := hid (bthen (bthen C1.out hb2 (Nat.le_refl _)) hal3 (Nat.le_refl _))
      have Hz1 := hid (hz1.below hal3)
      clear hr1 hz1 hb2 hal3
      go_wp2_with (go_at_call 45; fail)
      generalize w2.alloc (.cells #[.bool p1, .slice A1 n1 c1] 24) = W3 at *
      generalize w2.heap.size = g7 at *
      refine (rdi_any db W3 (by omega)).mono ?_
      rintro e w4 ⟨p2, A2, n2, c2, z2, r2, rfl, hr2, hz2, hb4⟩
      have HR2 := hid hr2
      have hal5 := al1' w4 (.cells #[.bool p2, .slice A2 n2 c2] 24)
      have b9 := hid (show Bk _ _ _ from heap_alloc_new w4 (.cells #[.bool p2, .slice A2 n2 c2] 24))
      have hb45 := bthen hb4 hal5 (Nat.le_refl _)
      have B7 := hid (b7.out.step hb45)
      have C5 := hid (bthen C3.out hb45 (Nat.le_refl _))
      have Z1 := hid (Hz1.out.below hb45)
      have Z2 := hid (hz2.below hal5)
      clear hr2 hz2 hb4 hal5 hb45 b7 Hz1 C3
      have HBG := hid (B0.out.step C5.out)
      have HSZ := hid (Nat.lt_of_lt_of_le hgl C5.out.size)
      by_cases hok : Good (bl sa) ∧ Good (bl db)
      · have e1 : r1 = 0 ∧ z1 = rz (bl sa) := by
          rcases HR1.out with ⟨_, h2, h3⟩ | ⟨h1, _, _⟩
          · exact ⟨h2, h3⟩
          · exact absurd hok.1 h1
        have e2 : r2 = 0 ∧ z2 = rz (bl db) := by
          rcases HR2.out with ⟨_, h2, h3⟩ | ⟨h1, _, _⟩
          · exact ⟨h2, h3⟩
          · exact absurd hok.2 h1
        obtain ⟨rfl, rfl⟩ := e1
        obtain ⟨rfl, rfl⟩ := e2
        have LN := hid (rz_len hl1 hok.1.1.2.1)
        have LD := hid (rz_len hl2 hok.2.1.2.1)
        have hxq : rv (rz (bl sa)) (rz (bl db)) = xq (bl s) := by unfold xq; rw [ha.out, hd.out]
        have hqi : Hid (Qi (w4.alloc (.cells #[.bool p2, .slice A2 n2 c2] 24)) p1 A1 n1 c1 p2 A2 n2 c2 1000 (xq (bl s))) := hid ⟨⟨_, _, Z1.out.zi, Z2.out.zi, hxq, LN.out, LD.out⟩⟩
        have hql : QL 1000 (xq (bl s)) := by rw [← hxq]; exact rv_ql (by decide) LN.out LD.out
        have HQL := hid hql
        clear HR1 HR2 Z1 Z2 hxq hql hok
        go_upto_region 8 with fail
        generalize w4.alloc (.cells #[.bool p2, .slice A2 n2 c2] 24) = W5 at *
        generalize w4.heap.size = g9 at *
        obtain ⟨u0, u1, _, _⟩ := B7.out.c2
        obtain ⟨v0, v1, _, _⟩ := b9.out.c2
        have T5 := hid (T0.below C5.out)
        have P5 := hid (P0.below C5.out)
        go_wp2_with (go_at_call 43; fail)
        refine (normal_q hqi.out (by decide) (by decide) T5.out).mono ?_
        rintro e w6 ⟨q1, E1, o1, d1, q2, E2, o2, d2, rfl, hq, hb6⟩
        have hal7 := al1' w6 (.cells #[.bool q1, .slice E1 o1 d1, .bool q2, .slice E2 o2 d2] 26)
        have b11 := hid (show Bk _ _ _ from heap_alloc_new w6 (.cells #[.bool q1, .slice E1 o1 d1, .bool q2, .slice E2 o2 d2] 26))
        have hb67 := bthen hb6 hal7 (Nat.le_refl _)
        have HQ7 := hid (hq.below hal7)
        have T7 := hid (T5.out.below hb67)
        have P7 := hid (P5.out.below hb67)
        have C7 := hid (bthen C5.out hb67 (Nat.le_refl _))
        clear hq hb6 hal7 hb67 u0 u1 v0 v1
        obtain ⟨F, hF⟩ : ∃ F, Hid ((⟨(fq (xq (bl s))).toArray⟩ : ByteArray) = F) := ⟨_, rfl⟩
        obtain ⟨C, hC⟩ : ∃ C : Bool, (F.toList == s.toList) = C := ⟨_, rfl⟩
        have HC := hid (show C = true ↔ fq (xq (bl s)) = bl s by rw [← hC, beq_iff_eq, tl_eq, tl_eq, ← hF.out, bl_of])
        cases C with
        | true =>
          have hgood := hid (HC.out.1 rfl)
          go_wp2_with (go_at_call 8; fail)
          generalize w6.alloc (.cells #[.bool q1, .slice E1 o1 d1, .bool q2, .slice E2 o2 d2] 26) = W7 at *
          generalize w6.heap.size = g11 at *
          refine (FormatRat_any (HQ7.out.qi HQL.out) (by decide) (by decide) HQL.out T7.out P7.out).mono ?_
          rintro e w8 ⟨rfl, hb8⟩
          rw [hF.out]
          have C8 := bthen C7.out hb8 (Nat.le_refl _)
          have bg := hid (B0.out.step C8)
          have hg8 := Nat.lt_of_lt_of_le hgl C8.size
          obtain ⟨x0, x1, x2, x3, x4, x5, x6, x7⟩ := bg.out.c4
          obtain ⟨t0, t1, t2, t3, t4, t5, t6, t7⟩ := (b11.out.step hb8).c4
          have hfz := hid (below4 (bthen HB.out C8 (Nat.le_refl _)) (show w.heap.size ≤ g by have := Hg0.out; omega) (.bool q1) (.slice E1 o1 d1) (.bool q2) (.slice E2 o2 d2))
          have hm8 := hid ((HQ7.out.below hb8).offbox bg.out (noInt_four _ _ _ _ _ _ _ _) (gb4' _ _ (.bool q1) (.slice E1 o1 d1) (.bool q2) (.slice E2 o2 d2)))
          clear hb8 C8
          go_wp2
          exact bodyPost_ret (v := .tuple #[.agg #[.bool q1, .slice E1 o1 d1, .bool q2, .slice E2 o2 d2], .int .i64 0]) (by simp [results, Tryz.results11, go_sem, x0, x1, x2, x3]) rfl ⟨q1, E1, o1, d1, q2, E2, o2, d2, 0, rfl, hfz.out, .inl ⟨rfl, by rw [bl_len]; omega, hgood.out, hm8.out⟩⟩
        | false =>
          have hne := hid (show fq (xq (bl s)) ≠ bl s from fun h => by have := HC.out.2 h; cases this)
          go_wp2_with (go_at_call 8; fail)
          generalize w6.alloc (.cells #[.bool q1, .slice E1 o1 d1, .bool q2, .slice E2 o2 d2] 26) = W7 at *
          generalize w6.heap.size = g11 at *
          refine (FormatRat_any (HQ7.out.qi HQL.out) (by decide) (by decide) HQL.out T7.out P7.out).mono ?_
          rintro e w8 ⟨rfl, hb8⟩
          rw [hF.out]
          have C8 := bthen C7.out hb8 (Nat.le_refl _)
          have bg := hid (B0.out.step C8)
          have hg8 := Nat.lt_of_lt_of_le hgl C8.size
          obtain ⟨x0, x1, x2, x3, x4, x5, x6, x7⟩ := bg.out.c4
          obtain ⟨t0, t1, t2, t3, t4, t5, t6, t7⟩ := (b11.out.step hb8).c4
          have hfz := hid (below4 (bthen HB.out C8 (Nat.le_refl _)) (show w.heap.size ≤ g by have := Hg0.out; omega) (.bool false) (.slice none 0 0) (.bool false) (.slice none 0 0))
          have hm8 := hid ((HQ7.out.below hb8).offbox bg.out (noInt_four _ _ _ _ _ _ _ _) (gb4' _ _ (.bool false) (.slice none 0 0) (.bool false) (.slice none 0 0)))
          clear hb8 C8
          go_wp2
          exact bodyPost_ret (v := .tuple #[.agg #[.bool false, .slice none 0 0, .bool false, .slice none 0 0], .int .i64 7]) (by simp [results, Tryz.results11, go_sem, x0, x1, x2, x3]) rfl ⟨false, none, 0, 0, false, none, 0, 0, 7, rfl, hfz.out, .inr ⟨zn_zero _, zn_zero _, .inr ⟨by rw [bl_len]; omega, hne.out, rfl⟩⟩⟩
      · have hne := hid (show fq (xq (bl s)) ≠ bl s from fun h => by
          have := good_parts h
          rw [← ha.out, ← hd.out] at this
          exact hok this)
        have hbad : (r1 = 7 ∧ (r2 = 0 ∨ r2 = 7)) ∨ (r1 = 0 ∧ r2 = 7) := by
          rcases HR1.out with ⟨g1, h2, _⟩ | ⟨g1, h2, _⟩ <;> rcases HR2.out with ⟨k1, k2, _⟩ | ⟨k1, k2, _⟩
          · exact absurd ⟨g1, k1⟩ hok
          · exact .inr ⟨h2, k2⟩
          · exact .inl ⟨h2, .inl k2⟩
          · exact .inl ⟨h2, .inr k2⟩
        clear HR1 HR2 Z1 Z2 hok
        have hfz := hid (below4 (bthen HB.out C5.out (Nat.le_refl _)) (show w.heap.size ≤ g by have := Hg0.out; omega) (.bool false) (.slice none 0 0) (.bool false) (.slice none 0 0))
        rcases hbad with ⟨rfl, rfl | rfl⟩ | ⟨rfl, rfl⟩
        all_goals
          go_upto_region 8 with fail
          generalize w4.alloc (.cells #[.bool p2, .slice A2 n2 c2] 24) = W5 at *
          generalize w4.heap.size = g9 at *
          have hg5 := HSZ.out
          obtain ⟨x0, x1, x2, x3, x4, x5, x6, x7⟩ := HBG.out.c4
          go_wp2
          exact bodyPost_ret (v := .tuple #[.agg #[.bool false, .slice none 0 0, .bool false, .slice none 0 0], .int .i64 7]) (by simp [results, Tryz.results11, go_sem, x0, x1, x2, x3]) rfl ⟨false, none, 0, 0, false, none, 0, 0, 7, rfl, hfz.out, .inr ⟨zn_zero _, zn_zero _, .inr ⟨by rw [bl_len]; omega, hne.out, rfl⟩⟩⟩

end Go.Proofs.YtgdclneolgmggaaGreatDoor
