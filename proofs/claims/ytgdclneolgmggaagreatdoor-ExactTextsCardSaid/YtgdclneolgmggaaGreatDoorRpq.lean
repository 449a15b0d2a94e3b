/- The reference's ParseRat. For all texts of at most nine hundred bytes. -/
import Derived.Test.YtgdclneolgmggaaGreatDoorRps
import Derived.Test.YtgdclneolgmggaaGreatDoorPrq
namespace Go.Proofs.YtgdclneolgmggaaGreatDoor
open Go.RowKit Kb Go.Lib

theorem le_zero_any (k : Nat) : Le k 0 := by
  show 0 < 65536 ^ k
  exact Nat.pow_pos (by decide)
theorem le_zero : Le 1000 0 := le_zero_any 1000

set_option maxRecDepth 100000 in
set_option maxHeartbeats 8000000 in
theorem rParseRat (s : ByteArray) (w : World) (hs : s.size ≤ 900) :
    Calls Tryz.prog 12 #[.string s] w fun e w' => Psq w (bl s) e w' := by
  have b0 := heap_alloc_new w (.cells #[.bool false, .slice none 0 0, .bool false, .slice none 0 0] 26)
  have hB := al1' w (.cells #[.bool false, .slice none 0 0, .bool false, .slice none 0 0] 26)
  obtain ⟨g, hg0⟩ : ∃ g, w.heap.size = g := ⟨_, rfl⟩
  by_cases hbig : 800 < s.size
  · have hfin := hid hB
    rw [hg0] at b0
    obtain ⟨x0, x1, x2, x3, x4, x5, x6, x7⟩ := cells4 b0
    have hgl : g < (w.alloc (.cells #[.bool false, .slice none 0 0, .bool false, .slice none 0 0] 26)).heap.size := (Array.getElem?_eq_some_iff.1 b0).1
    have B0 := hid b0
    clear b0 hB
    go_enter Tryz.func12, Tryz.ntmps12
    go_wp2
    exact bodyPost_ret (v := .tuple #[.agg #[.bool false, .slice none 0 0, .bool false, .slice none 0 0], .int .i64 8]) (by simp [results, Tryz.results12, go_sem, x0, x1, x2, x3]) rfl ⟨false, none, 0, 0, false, none, 0, 0, 8, rfl, hfin.out, .inr ⟨zn_zero _, zn_zero _, .inl ⟨by rw [bl_len]; exact hbig, rfl⟩⟩⟩
  · go_enter Tryz.func12, Tryz.ntmps12
    go_wp2
    rw [hg0] at b0
    generalize w.alloc (.cells #[.bool false, .slice none 0 0, .bool false, .slice none 0 0] 26) = W0 at *
    have HB := hid hB
    have Hg0 := hid hg0
    have hgl : g < W0.heap.size := (Array.getElem?_eq_some_iff.1 b0).1
    have B0 := hid (show Bk W0 g _ from b0)
    clear hB hg0 b0
    go_loopw [4, 5] (fun av iv wr => ∃ (k : Nat), iv = .int .i64 ((k : Int) - 1) ∧ k ≤ s.size ∧ av = .int .i64 (fsl (bl s) k : Nat) ∧ W0 = wr) (fun _ iv _ => (RowKit.intOf iv + 1).toNat)
    case atStart => exact ⟨s.size, by go_num, Nat.le_refl _, by rw [← bl_len, fsl_end], rfl⟩
    case round =>
      obtain ⟨k, rfl, hk, rfl, rfl⟩ := hrel
      by_cases hk0 : 0 < k
      · obtain ⟨j, rfl⟩ : ∃ j, k = j + 1 := ⟨k - 1, by omega⟩
        rw [show ((j + 1 : Nat) : Int) - 1 = (j : Int) by omega]
        obtain ⟨b, hb⟩ := bl_get (show j < s.size by omega)
        have hib := idx_run s j b hb j rfl
        by_cases h47 : b = 47
        · subst h47
          have hf := hid (fsl_hit hb)
          have hib2 : ∀ W, (Instr.index 9 (.string s) (.int .i64 (j : Int))).run Tryz.prog W = .ok (.int .u8 47) W := hib
          clear hb hib
          go_wp2
          go_roundw
          case rel => exact ⟨j, rfl, by omega, by rw [hf.out], trivial⟩
          case measure => simp [RowKit.intOf]
        · have hf := hid (fsl_miss hb h47)
          have hne : ((b.toNat : Int) == 47) = false := by
            rw [beq_eq_false_iff_ne]; intro e
            exact h47 (UInt8.toNat_inj.1 (by show b.toNat = 47; omega))
          clear hb h47
          go_wp2
          go_roundw
          case rel => exact ⟨j, rfl, by omega, by rw [hf.out], trivial⟩
          case measure => simp [RowKit.intOf]
      · obtain rfl : k = 0 := by omega
        rw [fsl_zero]
        obtain ⟨at0, hat⟩ : ∃ a, (cutS (bl s)).1.length = a := ⟨_, rfl⟩
        rw [hat]
        have hle : at0 ≤ s.size := by rw [← hat, ← bl_len]; exact (cutS_len _).1
        have HA := hid hat
        obtain ⟨sa, hsa⟩ : ∃ sa, s.extract 0 at0 = sa := ⟨_, rfl⟩
        have hba : Hid (bl sa = (cutS (bl s)).1) := hid (by rw [← hsa, bl_extract, List.drop_zero, ← hat, cut_take])
        have hsl : ∀ W, (Instr.slice 9 (.string s) none (some (.int .i64 (at0 : Int))) none).run Tryz.prog W = .ok (.string sa) W := fun W => by
          rw [run_slice_string_to_if W 9 s .i64 at0 Tryz.underlying9, if_pos ⟨by omega, by omega⟩, Int.toNat_natCast, hsa]
        have hsz : sa.size ≤ 900 := by rw [← bl_len, hba.out]; have := (cutS_len (bl s)).1; rw [bl_len] at this; omega
        clear hat hsa
        go_wp2_with (go_at_call 51; fail)
        refine (rDec_any sa _ (by omega)).mono ?_
        rintro e w2 ⟨p1, A1, n1, c1, z1, r1, rfl, hr1, hz1, hb2⟩
        have HR1 := hid hr1
        have hl1 : (bl sa).length ≤ 900 := by rw [bl_len]; exact hsz
        have LZ1 : Hid (Le 1000 z1) := by
          rcases hr1 with ⟨h1, _, h3⟩ | ⟨_, _, h3⟩
          · exact hid (by rw [h3]; exact rz_len hl1 h1)
          · exact hid (by rw [h3]; exact le_zero)
        cases hc : (cutS (bl s)).2 with
        | none =>
          have hend : (at0 : Int) = (s.size : Int) := by have := cut_none hc; rw [bl_len] at this; have := HA.out; omega
          have hnl : ((at0 : Int) < (s.size : Int)) = False := by rw [hend]; simp
          have HCN := hid hc
          have hal := al2 (W := w2) (o := .cells #[.bool p1, .slice A1 n1 c1] 24) (p := .cells #[.bool false, .slice none 0 0] 24)
          have Z1 := hid (hz1.below hal)
          have C4 := hid (bthen hb2 hal (Nat.le_refl _))
          clear hr1 hz1 hb2 hal hc
          go_wp2_with (go_at_call 52; fail)
          generalize (w2.alloc (.cells #[.bool p1, .slice A1 n1 c1] 24)).alloc (.cells #[.bool false, .slice none 0 0] 24) = W4 at *
          generalize w2.heap.size = g6 at *
          refine (rOver Z1.out.zi (zn_zero W4).zi (Z1.out.len LZ1.out) (by decide) LZ1.out le_zero).mono ?_
          rintro e w6 ⟨q1, E1, o1, d1, q2, E2, o2, d2, rfl, hq, hb6⟩
          have C6 := hid (bthen C4.out hb6 (Nat.le_refl _))
          have HQL := hid (rv_ql (k := 1000) (N := z1) (D := 0) (by decide) LZ1.out le_zero)
          have HXQ : r1 = 0 → rv z1 0 = xq (bl s) := fun h => by
            have e1 : z1 = rz (cutS (bl s)).1 := by
              rcases HR1.out with ⟨_, _, h3⟩ | ⟨_, h2, _⟩
              · rw [h3, hba.out]
              · omega
            unfold xq den
            rw [HCN.out, rv_z, ← e1]
            show rv z1 1 = rv z1 (rz [49])
            rw [rz_one]
          clear C4 Z1 hb6
          have hal7 := al1' w6 (.cells #[.bool q1, .slice E1 o1 d1, .bool q2, .slice E2 o2 d2] 26)
          have b11 := hid (show Bk _ _ _ from heap_alloc_new w6 (.cells #[.bool q1, .slice E1 o1 d1, .bool q2, .slice E2 o2 d2] 26))
          have HQ7 := hid (hq.below hal7)
          have C7 := hid (bthen C6.out hal7 (Nat.le_refl _))
          clear hq hal7
          by_cases hok : r1 = 0
          · have hz := HXQ hok
            subst hok
            have HXQ := hz
            have HXE := hid HXQ
            clear HXQ
            obtain ⟨F, hF⟩ : ∃ F, Hid ((⟨(fq (xq (bl s))).toArray⟩ : ByteArray) = F) := ⟨_, rfl⟩
            obtain ⟨C, hC⟩ : ∃ C : Bool, (F.toList == s.toList) = C := ⟨_, rfl⟩
            have HC := hid (show C = true ↔ fq (xq (bl s)) = bl s by rw [← hC, beq_iff_eq, tl_eq, tl_eq, ← hF.out, bl_of])
            cases C with
            | true =>
              have hgood := hid (HC.out.1 rfl)
              go_wp2_with (go_at_call 14; fail)
              generalize w6.alloc (.cells #[.bool q1, .slice E1 o1 d1, .bool q2, .slice E2 o2 d2] 26) = W7 at *
              generalize w6.heap.size = g11 at *
              refine (rFormatRat (HQ7.out.ri HQL.out (by decide)) (by decide) HQL.out).mono ?_
              rintro e w8 ⟨rfl, hb8⟩
              rw [HXE.out, hF.out]
              have C8 := bthen C7.out hb8 (Nat.le_refl _)
              have bg := hid (B0.out.step C8)
              have hg8 := Nat.lt_of_lt_of_le hgl C8.size
              obtain ⟨x0, x1, x2, x3, x4, x5, x6, x7⟩ := bg.out.c4
              obtain ⟨t0, t1, t2, t3, t4, t5, t6, t7⟩ := (b11.out.step hb8).c4
              have hfz := hid (below4 (bthen HB.out C8 (Nat.le_refl _)) (show w.heap.size ≤ g by have := Hg0.out; omega) (.bool q1) (.slice E1 o1 d1) (.bool q2) (.slice E2 o2 d2))
              have hm8 := hid ((HQ7.out.below hb8).offbox bg.out (noInt_four _ _ _ _ _ _ _ _) (gb4' _ _ (.bool q1) (.slice E1 o1 d1) (.bool q2) (.slice E2 o2 d2)))
              clear hb8 C8
              go_wp2
              exact bodyPost_ret (v := .tuple #[.agg #[.bool q1, .slice E1 o1 d1, .bool q2, .slice E2 o2 d2], .int .i64 0]) (by simp [results, Tryz.results12, go_sem, x0, x1, x2, x3]) rfl ⟨q1, E1, o1, d1, q2, E2, o2, d2, 0, rfl, hfz.out, .inl ⟨rfl, by rw [bl_len]; omega, hgood.out, by rw [← HXE.out]; exact hm8.out⟩⟩
            | false =>
              have hne := hid (show fq (xq (bl s)) ≠ bl s from fun h => by have := HC.out.2 h; cases this)
              go_wp2_with (go_at_call 14; fail)
              generalize w6.alloc (.cells #[.bool q1, .slice E1 o1 d1, .bool q2, .slice E2 o2 d2] 26) = W7 at *
              generalize w6.heap.size = g11 at *
              refine (rFormatRat (HQ7.out.ri HQL.out (by decide)) (by decide) HQL.out).mono ?_
              rintro e w8 ⟨rfl, hb8⟩
              rw [HXE.out, hF.out]
              have C8 := bthen C7.out hb8 (Nat.le_refl _)
              have bg := hid (B0.out.step C8)
              have hg8 := Nat.lt_of_lt_of_le hgl C8.size
              obtain ⟨x0, x1, x2, x3, x4, x5, x6, x7⟩ := bg.out.c4
              obtain ⟨t0, t1, t2, t3, t4, t5, t6, t7⟩ := (b11.out.step hb8).c4
              have hfz := hid (below4 (bthen HB.out C8 (Nat.le_refl _)) (show w.heap.size ≤ g by have := Hg0.out; omega) (.bool false) (.slice none 0 0) (.bool false) (.slice none 0 0))
              have hm8 := hid ((HQ7.out.below hb8).offbox bg.out (noInt_four _ _ _ _ _ _ _ _) (gb4' _ _ (.bool false) (.slice none 0 0) (.bool false) (.slice none 0 0)))
              clear hb8 C8
              go_wp2
              exact bodyPost_ret (v := .tuple #[.agg #[.bool false, .slice none 0 0, .bool false, .slice none 0 0], .int .i64 7]) (by simp [results, Tryz.results12, go_sem, x0, x1, x2, x3]) rfl ⟨false, none, 0, 0, false, none, 0, 0, 7, rfl, hfz.out, .inr ⟨zn_zero _, zn_zero _, .inr ⟨by rw [bl_len]; omega, hne.out, rfl⟩⟩⟩
          · have hne := hid (show fq (xq (bl s)) ≠ bl s from fun h => hok ((fun hg => by rcases HR1.out with ⟨_, h2, _⟩ | ⟨h1, _, _⟩; exact h2; exact absurd (ad_good (by rw [hba.out]; exact hg.1)) h1) (good_parts h)))
            have hbad : r1 = 7 := by rcases HR1.out with ⟨_, h2, _⟩ | ⟨_, h2, _⟩; exact absurd h2 hok; exact h2
            have hfz := hid (below4 (bthen HB.out C7.out (Nat.le_refl _)) (show w.heap.size ≤ g by have := Hg0.out; omega) (.bool false) (.slice none 0 0) (.bool false) (.slice none 0 0))
            have HBG := hid (B0.out.step C7.out)
            have HSZ := hid (Nat.lt_of_lt_of_le hgl C7.out.size)
            clear HXQ hok
            subst hbad
            go_upto_region 14 with fail
            generalize w6.alloc (.cells #[.bool q1, .slice E1 o1 d1, .bool q2, .slice E2 o2 d2] 26) = W7 at *
            generalize w6.heap.size = g11 at *
            have hg5 := HSZ.out
            obtain ⟨x0, x1, x2, x3, x4, x5, x6, x7⟩ := HBG.out.c4
            go_wp2
            exact bodyPost_ret (v := .tuple #[.agg #[.bool false, .slice none 0 0, .bool false, .slice none 0 0], .int .i64 7]) (by simp [results, Tryz.results12, go_sem, x0, x1, x2, x3]) rfl ⟨false, none, 0, 0, false, none, 0, 0, 7, rfl, hfz.out, .inr ⟨zn_zero _, zn_zero _, .inr ⟨by rw [bl_len]; omega, hne.out, rfl⟩⟩⟩
        | some r =>
          have hlt : at0 < s.size := by have := cut_some hc; rw [bl_len] at this; have := HA.out; omega
          have hlt2 : ((at0 : Int) < (s.size : Int)) = True := by simp; omega
          obtain ⟨sb, hsb⟩ : ∃ sb, s.extract (at0 + 1) s.size = sb := ⟨_, rfl⟩
          have hbb : Hid (bl sb = den (bl s)) := hid (by
            unfold den
            rw [hc, ← hsb, bl_extract, show (bl s).take s.size = bl s by rw [← bl_len, List.take_length], ← HA.out]
            exact cut_drop hc)
          have hsl2 : ∀ W, (Instr.slice 9 (.string s) (some (.int .i64 ((at0 : Int) + 1))) none none).run Tryz.prog W = .ok (.string sb) W := fun W => by
            rw [run_slice_string_from_if W 9 s .i64 ((at0 : Int) + 1) Tryz.underlying9, if_pos ⟨by omega, by omega⟩, show ((at0 : Int) + 1).toNat = at0 + 1 by omega, hsb]
          have hsz2 : sb.size ≤ 900 := by
            rw [← bl_len, ← hsb, bl_extract, List.length_drop, List.length_take, bl_len]; omega
          have hl2 : (bl sb).length ≤ 900 := by rw [bl_len]; exact hsz2
          have hal := al2 (W := w2) (o := .cells #[.bool p1, .slice A1 n1 c1] 24) (p := .cells #[.bool false, .slice none 0 0] 24)
          have b6 := hid (box1 w2 (.cells #[.bool p1, .slice A1 n1 c1] 24) (.cells #[.bool false, .slice none 0 0] 24))
          have b8 := hid (box2 w2 (.cells #[.bool p1, .slice A1 n1 c1] 24) (.cells #[.bool false, .slice none 0 0] 24))
          have Z1 := hid (hz1.below hal)
          have C4 := hid (bthen hb2 hal (Nat.le_refl _))
          have hw2 := hb2.size
          clear hr1 hz1 hb2 hal hc hsb
          go_wp2_with (go_at_call 51; fail)
          generalize (w2.alloc (.cells #[.bool p1, .slice A1 n1 c1] 24)).alloc (.cells #[.bool false, .slice none 0 0] 24) = W4 at *
          generalize w2.heap.size = g6 at *
          refine (rDec_any sb W4 (by omega)).mono ?_
          rintro e w5 ⟨p2, A2, n2, c2, z2, r2, rfl, hr2, hz2, hb5⟩
          have HR2 := hid hr2
          have LZ2 : Hid (Le 1000 z2) := by
            rcases hr2 with ⟨h1, _, h3⟩ | ⟨_, _, h3⟩
            · exact hid (by rw [h3]; exact rz_len hl2 h1)
            · exact hid (by rw [h3]; exact le_zero)
          have b65 := b6.out.step hb5
          have b85 := b8.out.step hb5
          obtain ⟨u0, u1, u2, u3⟩ := b65.c2
          obtain ⟨v0, v1, v2, v3⟩ := b85.c2
          have hl6 := b65.lt
          have hl8 := b85.lt
          have Z15 := hid (show Zn ((w5.setCell ⟨g6 + 1, 0, none⟩ (.bool p2)).setCell ⟨g6 + 1, 1, none⟩ (.slice A2 n2 c2)) p1 A1 n1 c1 z1 from (Z1.out.below hb5).offbox b85 (noInt_zero _ _ _ _) (gb2 _ (g6 + 1) 0 1 (.bool p2) (.slice A2 n2 c2)))
          have Z25 := hid (show Zn ((w5.setCell ⟨g6 + 1, 0, none⟩ (.bool p2)).setCell ⟨g6 + 1, 1, none⟩ (.slice A2 n2 c2)) p2 A2 n2 c2 z2 from hz2.offbox b85 (noInt_zero _ _ _ _) (gb2 _ (g6 + 1) 0 1 (.bool p2) (.slice A2 n2 c2)))
          have C5 := hid (show Below W0.heap.size W0 ((w5.setCell ⟨g6 + 1, 0, none⟩ (.bool p2)).setCell ⟨g6 + 1, 1, none⟩ (.slice A2 n2 c2)) from ((bthen C4.out hb5 (Nat.le_refl _)).setCell (p := ⟨g6 + 1, 0, none⟩) (by show W0.heap.size ≤ g6 + 1; omega) (.bool p2)).setCell (p := ⟨g6 + 1, 1, none⟩) (by show W0.heap.size ≤ g6 + 1; omega) (.slice A2 n2 c2))
          clear hr2 hz2 hb5 b65 b85 b6 b8 Z1 C4
          go_wp2_with (go_at_call 52; fail)
          generalize (w5.setCell ⟨g6 + 1, 0, none⟩ (.bool p2)).setCell ⟨g6 + 1, 1, none⟩ (.slice A2 n2 c2) = W5 at *
          refine (rOver Z15.out.zi Z25.out.zi (Z15.out.len LZ1.out) (Z25.out.len LZ2.out) LZ1.out LZ2.out).mono ?_
          rintro e w6 ⟨q1, E1, o1, d1, q2, E2, o2, d2, rfl, hq, hb6⟩
          have C6 := hid (bthen C5.out hb6 (Nat.le_refl _))
          have HQL := hid (rv_ql (k := 1000) (N := z1) (D := z2) (by decide) LZ1.out LZ2.out)
          have HXQ : r1 = 0 ∧ r2 = 0 → rv z1 z2 = xq (bl s) := fun h => by
            have e1 : z1 = rz (cutS (bl s)).1 := by
              rcases HR1.out with ⟨_, _, h3⟩ | ⟨_, h2, _⟩
              · rw [h3, hba.out]
              · omega
            have e2 : z2 = rz (den (bl s)) := by
              rcases HR2.out with ⟨_, _, h3⟩ | ⟨_, h2, _⟩
              · rw [h3, hbb.out]
              · omega
            unfold xq
            rw [← e1, ← e2]
          clear C5 Z15 Z25 hb6 u0 u1 u2 u3 v0 v1 v2 v3 hl6 hl8
          have hal7 := al1' w6 (.cells #[.bool q1, .slice E1 o1 d1, .bool q2, .slice E2 o2 d2] 26)
          have b11 := hid (show Bk _ _ _ from heap_alloc_new w6 (.cells #[.bool q1, .slice E1 o1 d1, .bool q2, .slice E2 o2 d2] 26))
          have HQ7 := hid (hq.below hal7)
          have C7 := hid (bthen C6.out hal7 (Nat.le_refl _))
          clear hq hal7
          by_cases hok : r1 = 0 ∧ r2 = 0
          · have hz := HXQ hok
            obtain ⟨rfl, rfl⟩ := hok
            have HXQ := hz
            have HXE := hid HXQ
            clear HXQ
            obtain ⟨F, hF⟩ : ∃ F, Hid ((⟨(fq (xq (bl s))).toArray⟩ : ByteArray) = F) := ⟨_, rfl⟩
            obtain ⟨C, hC⟩ : ∃ C : Bool, (F.toList == s.toList) = C := ⟨_, rfl⟩
            have HC := hid (show C = true ↔ fq (xq (bl s)) = bl s by rw [← hC, beq_iff_eq, tl_eq, tl_eq, ← hF.out, bl_of])
            cases C with
            | true =>
              have hgood := hid (HC.out.1 rfl)
              go_wp2_with (go_at_call 14; fail)
              generalize w6.alloc (.cells #[.bool q1, .slice E1 o1 d1, .bool q2, .slice E2 o2 d2] 26) = W7 at *
              generalize w6.heap.size = g11 at *
              refine (rFormatRat (HQ7.out.ri HQL.out (by decide)) (by decide) HQL.out).mono ?_
              rintro e w8 ⟨rfl, hb8⟩
              rw [HXE.out, hF.out]
              have C8 := bthen C7.out hb8 (Nat.le_refl _)
              have bg := hid (B0.out.step C8)
              have hg8 := Nat.lt_of_lt_of_le hgl C8.size
              obtain ⟨x0, x1, x2, x3, x4, x5, x6, x7⟩ := bg.out.c4
              obtain ⟨t0, t1, t2, t3, t4, t5, t6, t7⟩ := (b11.out.step hb8).c4
              have hfz := hid (below4 (bthen HB.out C8 (Nat.le_refl _)) (show w.heap.size ≤ g by have := Hg0.out; omega) (.bool q1) (.slice E1 o1 d1) (.bool q2) (.slice E2 o2 d2))
              have hm8 := hid ((HQ7.out.below hb8).offbox bg.out (noInt_four _ _ _ _ _ _ _ _) (gb4' _ _ (.bool q1) (.slice E1 o1 d1) (.bool q2) (.slice E2 o2 d2)))
              clear hb8 C8
              go_wp2
              exact bodyPost_ret (v := .tuple #[.agg #[.bool q1, .slice E1 o1 d1, .bool q2, .slice E2 o2 d2], .int .i64 0]) (by simp [results, Tryz.results12, go_sem, x0, x1, x2, x3]) rfl ⟨q1, E1, o1, d1, q2, E2, o2, d2, 0, rfl, hfz.out, .inl ⟨rfl, by rw [bl_len]; omega, hgood.out, by rw [← HXE.out]; exact hm8.out⟩⟩
            | false =>
              have hne := hid (show fq (xq (bl s)) ≠ bl s from fun h => by have := HC.out.2 h; cases this)
              go_wp2_with (go_at_call 14; fail)
              generalize w6.alloc (.cells #[.bool q1, .slice E1 o1 d1, .bool q2, .slice E2 o2 d2] 26) = W7 at *
              generalize w6.heap.size = g11 at *
              refine (rFormatRat (HQ7.out.ri HQL.out (by decide)) (by decide) HQL.out).mono ?_
              rintro e w8 ⟨rfl, hb8⟩
              rw [HXE.out, hF.out]
              have C8 := bthen C7.out hb8 (Nat.le_refl _)
              have bg := hid (B0.out.step C8)
              have hg8 := Nat.lt_of_lt_of_le hgl C8.size
              obtain ⟨x0, x1, x2, x3, x4, x5, x6, x7⟩ := bg.out.c4
              obtain ⟨t0, t1, t2, t3, t4, t5, t6, t7⟩ := (b11.out.step hb8).c4
              have hfz := hid (below4 (bthen HB.out C8 (Nat.le_refl _)) (show w.heap.size ≤ g by have := Hg0.out; omega) (.bool false) (.slice none 0 0) (.bool false) (.slice none 0 0))
              have hm8 := hid ((HQ7.out.below hb8).offbox bg.out (noInt_four _ _ _ _ _ _ _ _) (gb4' _ _ (.bool false) (.slice none 0 0) (.bool false) (.slice none 0 0)))
              clear hb8 C8
              go_wp2
              exact bodyPost_ret (v := .tuple #[.agg #[.bool false, .slice none 0 0, .bool false, .slice none 0 0], .int .i64 7]) (by simp [results, Tryz.results12, go_sem, x0, x1, x2, x3]) rfl ⟨false, none, 0, 0, false, none, 0, 0, 7, rfl, hfz.out, .inr ⟨zn_zero _, zn_zero _, .inr ⟨by rw [bl_len]; omega, hne.out, rfl⟩⟩⟩
          · have hne := hid (show fq (xq (bl s)) ≠ bl s from fun h => hok (by
              have hg := good_parts h
              refine ⟨?_, ?_⟩
              · rcases HR1.out with ⟨_, h2, _⟩ | ⟨h1, _, _⟩
                · exact h2
                · exact absurd (ad_good (by rw [hba.out]; exact hg.1)) h1
              · rcases HR2.out with ⟨_, h2, _⟩ | ⟨h1, _, _⟩
                · exact h2
                · exact absurd (ad_good (by rw [hbb.out]; exact hg.2)) h1))
            have hbad : (r1 = 7 ∧ (r2 = 0 ∨ r2 = 7)) ∨ (r1 = 0 ∧ r2 = 7) := by
              rcases HR1.out with ⟨_, h2, _⟩ | ⟨_, h2, _⟩ <;> rcases HR2.out with ⟨_, k2, _⟩ | ⟨_, k2, _⟩
              · exact absurd ⟨h2, k2⟩ hok
              · exact .inr ⟨h2, k2⟩
              · exact .inl ⟨h2, .inl k2⟩
              · exact .inl ⟨h2, .inr k2⟩
            have hfz := hid (below4 (bthen HB.out C7.out (Nat.le_refl _)) (show w.heap.size ≤ g by have := Hg0.out; omega) (.bool false) (.slice none 0 0) (.bool false) (.slice none 0 0))
            have HBG := hid (B0.out.step C7.out)
            have HSZ := hid (Nat.lt_of_lt_of_le hgl C7.out.size)
            clear HXQ hok
            rcases hbad with ⟨rfl, rfl | rfl⟩ | ⟨rfl, rfl⟩
            all_goals
              go_upto_region 14 with fail
              generalize w6.alloc (.cells #[.bool q1, .slice E1 o1 d1, .bool q2, .slice E2 o2 d2] 26) = W7 at *
              generalize w6.heap.size = g11 at *
              have hg5 := HSZ.out
              obtain ⟨x0, x1, x2, x3, x4, x5, x6, x7⟩ := HBG.out.c4
              go_wp2
              exact bodyPost_ret (v := .tuple #[.agg #[.bool false, .slice none 0 0, .bool false, .slice none 0 0], .int .i64 7]) (by simp [results, Tryz.results12, go_sem, x0, x1, x2, x3]) rfl ⟨false, none, 0, 0, false, none, 0, 0, 7, rfl, hfz.out, .inr ⟨zn_zero _, zn_zero _, .inr ⟨by rw [bl_len]; omega, hne.out, rfl⟩⟩⟩

end Go.Proofs.YtgdclneolgmggaaGreatDoor
