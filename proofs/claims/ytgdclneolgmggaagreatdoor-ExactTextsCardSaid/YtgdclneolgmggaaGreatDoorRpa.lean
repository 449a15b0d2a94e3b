/- The reference's Parse. For all texts of at most nine hundred bytes. -/
import Derived.Test.YtgdclneolgmggaaGreatDoorRde
namespace Go.Proofs.YtgdclneolgmggaaGreatDoor
open Go.RowKit Kb Go.Lib

/-- What Parse tells of a text: the integer, and the error's number. -/
def Pzt (l : List UInt8) (z r : Int) : Prop := (400 < l.length ∧ r = 8 ∧ z = 0) ∨ (l.length ≤ 400 ∧ Good l ∧ r = 0 ∧ z = rz l) ∨ (l.length ≤ 400 ∧ ¬ Good l ∧ r = 7 ∧ z = 0)

def Pst (w : World) (l : List UInt8) (e : Ending) (w' : World) : Prop := ∃ p A n c z r, e = .returned (.tuple #[.agg #[.bool p, .slice A n c], .int .i64 r]) ∧ Pzt l z r ∧ Zn w' p A n c z ∧ Below w.heap.size w w'

theorem good_cmp (s : ByteArray) {C : Bool} (h : ((⟨(itoa (rz (bl s))).toArray⟩ : ByteArray).toList == s.toList) = C) : C = true ↔ Good (bl s) := by
  rw [← h, beq_iff_eq, tl_eq, tl_eq, bl_of]
  exact ⟨fun e => (good_iff _).2 ⟨_, e⟩, fun e => itoa_good e⟩

theorem rFormatF {s : Bool} {A : Option Addr} {n c : Nat} {z : Int} {w : World} (F : ByteArray) (hF : (⟨(itoa z).toArray⟩ : ByteArray) = F) (h : Zi w s A n c z) (hn : n ≤ 100000) (hz : Le 1000 z) :
    Calls Tryz.prog 13 #[.agg #[.bool s, .slice A n c]] w fun e w' => e = .returned (.string F) ∧ Below w.heap.size w w' := by
  subst hF
  exact rFormat h hn hz

theorem zn_zero (w : World) : Zn w false none 0 0 0 := ⟨rfl, nm_nil w⟩

theorem rz_le_any {l : List UInt8} {k : Nat} (h : rdt 0 (st l) < 10 ^ k) : Le k (rz l) := by
  have e : (rz l).natAbs = rdt 0 (st l) := by
    unfold rz; split <;> omega
  have h1 : (10 : Nat) ^ k ≤ 65536 ^ k := Nat.pow_le_pow_left (by decide) _
  unfold Le
  rw [e]
  omega
theorem rz_le {l : List UInt8} (h : rdt 0 (st l) < 10 ^ 1000) : Le 1000 (rz l) := rz_le_any h

set_option maxRecDepth 100000 in
set_option maxHeartbeats 8000000 in
theorem rParse (s : ByteArray) (w : World) (hs : s.size ≤ 900) :
    Calls Tryz.prog 10 #[.string s] w fun e w' => Pst w (bl s) e w' := by
  have b0 := heap_alloc_new w (.cells #[.bool false, .slice none 0 0] 24)
  have hB := (Below.refl w.heap.size w).alloc (Nat.le_refl _) (.cells #[.bool false, .slice none 0 0] 24)
  have hcase : (s.size = 0 ∧ ng (bl s) = false) ∨ (0 < s.size ∧ ∃ b : UInt8, (∀ W, (Instr.index 9 (.string s) (.int .i64 0)).run Tryz.prog W = .ok (.int .u8 ((b.toNat : Nat) : Int)) W) ∧ ng (bl s) = ((b.toNat : Int) == 45)) := by
    rcases Nat.eq_zero_or_pos s.size with e | e
    · refine .inl ⟨e, ?_⟩
      have : bl s = [] := List.eq_nil_of_length_eq_zero (by rw [bl_len]; exact e)
      rw [this]; rfl
    · obtain ⟨b, hb⟩ := bl_get e
      refine .inr ⟨e, b, idx_run s 0 b hb 0 rfl, ?_⟩
      have hh : (bl s).head? = some b := by rw [List.head?_eq_getElem?]; exact hb
      unfold ng
      rw [hh]
      by_cases h45 : b = 45
      · subst h45; rfl
      · rw [beq_eq_false_iff_ne.2 (fun e => h45 (by injection e)), Eq.comm, beq_eq_false_iff_ne]
        intro e2
        exact h45 (UInt8.toNat_inj.1 (by show b.toNat = 45; omega))
  obtain ⟨g, hg0⟩ : ∃ g, w.heap.size = g := ⟨_, rfl⟩
  by_cases hbig : 400 < s.size
  · have hfin := hid hB
    have hH := hid hcase
    clear hcase
    rw [hg0] at b0
    obtain ⟨x0, x1, x2, x3⟩ := cells2 b0
    have hgl : g < (w.alloc (.cells #[.bool false, .slice none 0 0] 24)).heap.size := (Array.getElem?_eq_some_iff.1 b0).1
    have B0 := hid b0
    clear b0 hB
    go_enter Tryz.func10, Tryz.ntmps10
    go_wp2
    exact bodyPost_ret (v := .tuple #[.agg #[.bool false, .slice none 0 0], .int .i64 8]) (by simp [results, Tryz.results10, go_sem, x0, x1]) rfl ⟨false, none, 0, 0, 0, 8, rfl, .inl ⟨by rw [bl_len]; exact hbig, rfl, rfl⟩, zn_zero _, hfin.out⟩
  go_enter Tryz.func10, Tryz.ntmps10
  rcases hcase with ⟨h0, hn⟩ | ⟨h0, b, hib, hn⟩
  · have hs0 : ((s.size : Int)) = 0 := by omega
    go_wp2
    rw [hg0] at b0
    generalize w.alloc (.cells #[.bool false, .slice none 0 0] 24) = W0 at *
    have HB := hid hB
    have Hg0 := hid hg0
    have hgl : g < W0.heap.size := (Array.getElem?_eq_some_iff.1 b0).1
    have B0 := hid b0
    have Hn := hid hn
    clear hB hg0 b0 hn
    go_loopw [4, 6] (fun v iv wr => ∃ (i : Nat), iv = .int .i64 i ∧ i ≤ s.size ∧ Nt wr v (rdt 0 (st ((bl s).take i))) ∧ Hid (∀ b ∈ st ((bl s).take i), isD b) ∧ Hid (Below W0.heap.size W0 wr)) (fun _ iv _ => s.size - (RowKit.intOf iv).toNat)
    case atStart => exact ⟨0, by go_num, by omega, by rw [List.take_zero]; show Nt W0 _ (rdt 0 (st [])); show Nt W0 _ 0; unfold Nt; rw [dig_zero]; exact Ls.nil _, hid (by rw [List.take_zero]; intro b hb; exact absurd hb (by simp [st])), hid (Below.refl _ _)⟩
    case round =>
      obtain ⟨i, rfl, hi, hv, hd, hbel⟩ := hrel
      by_cases hlt : i < s.size
      · exact absurd hlt (by omega)
      · obtain rfl : i = s.size := by omega
        have htk : (bl s).take s.size = bl s := by rw [← bl_len, List.take_length]
        rw [htk] at hv hd
        have h1 : rdt 0 (st (bl s)) < 10 ^ 1000 := by
          refine rd_cut (k := 1000) hd.out ?_
          have := st_len (bl s)
          rw [bl_len] at this
          omega
        have hlr : (dig (rdt 0 (st (bl s)))).length ≤ 1000000 := by
          have := (dig_ten h1).2
          omega
        have hle : Le 1000 (rz (bl s)) := rz_le h1
        have hB0 := hid ((hbel.out.block g hgl).trans B0.out)
        have hgr := Nat.lt_of_lt_of_le hgl hbel.out.size
        have hmd := rmade false u4 _ wr hv hlr
        have hrz : toZ false (rdt 0 (st (bl s))) = rz (bl s) := by rw [← Hn.out, rz_toZ]
        rw [hrz] at hmd
        have hfinb := hid (bthen HB.out hbel.out (Nat.le_refl _))
        have Hle := hid hle
        have hgr2 := hgr
        clear hv hd htk hlr hbel hrz h1 hle
        obtain ⟨F, hF⟩ : ∃ F, Hid ((⟨(itoa (rz (bl s))).toArray⟩ : ByteArray) = F) := ⟨_, rfl⟩
        obtain ⟨C, hC⟩ : ∃ C : Bool, (F.toList == s.toList) = C := ⟨_, rfl⟩
        have HC := hid (show ((⟨(itoa (rz (bl s))).toArray⟩ : ByteArray).toList == s.toList) = C by rw [hF.out]; exact hC)
        cases C with
        | true =>
          go_wp2_with (first
            | (go_at_call 49; refine hmd.mono ?_; rintro e w2 ⟨p3, A3, n3, c3, rfl, hz3, hb3⟩; have b7 := heap_alloc_new w2 (.cells #[.bool p3, .slice A3 n3 c3] 24); have hz4 := hz3.below (al1' w2 (.cells #[.bool p3, .slice A3 n3 c3] 24)))
            | (go_at_call 13; refine (rFormatF F hF.out hz4.zi (Nat.le_trans (hz4.len Hle.out) (by decide)) Hle.out).mono ?_; rintro e w5 ⟨rfl, hb5⟩; have hb35 := bthen hb3 (bthen (al1' w2 (.cells #[.bool p3, .slice A3 n3 c3] 24)) hb5 (Nat.le_refl _)) (Nat.le_refl _); have b3 := (hb35.block g hgr).trans hB0.out; have hl3 : g < w5.heap.size := (Array.getElem?_eq_some_iff.1 b3).1; obtain ⟨t0, t1, t2, t3⟩ := cells2 b3; have B3 := hid b3; have b75 := (hb5.block w2.heap.size (by simp)).trans b7; obtain ⟨r0, r1, r2, r3⟩ := cells2 b75; have hz5 := hz4.below hb5; clear b3 b7 b75))
          have hst := fun (a : Bool) (x : Value) => hid (((bthen hfinb.out hb35 (Nat.le_refl _)).setCell (p := ⟨g, 0, none⟩) (by show w.heap.size ≤ g; have := Hg0.out; omega) (.bool a)).setCell (p := ⟨g, 1, none⟩) (by show w.heap.size ≤ g; have := Hg0.out; omega) x)
          have hG := hid ((good_cmp s HC.out).1 rfl)
          have m3 := hid (hz5.offbox B3.out (noInt_zero _ _ _ _) (gb2 _ g 0 1 (.bool p3) (.slice A3 n3 c3)))
          have hf := hst p3 (.slice A3 n3 c3)
          clear hst hz5 hz3 hz4 hb35 hb5 hb3
          exact bodyPost_ret (v := .tuple #[.agg #[.bool p3, .slice A3 n3 c3], .int .i64 0]) (by simp [results, Tryz.results10, go_sem, t0, t1]) rfl ⟨p3, A3, n3, c3, _, 0, rfl, .inr (.inl ⟨by rw [bl_len]; omega, hG.out, rfl, rfl⟩), m3.out, hf.out⟩
        | false =>
          go_wp2_with (first
            | (go_at_call 49; refine hmd.mono ?_; rintro e w2 ⟨p3, A3, n3, c3, rfl, hz3, hb3⟩; have b7 := heap_alloc_new w2 (.cells #[.bool p3, .slice A3 n3 c3] 24); have hz4 := hz3.below (al1' w2 (.cells #[.bool p3, .slice A3 n3 c3] 24)))
            | (go_at_call 13; refine (rFormatF F hF.out hz4.zi (Nat.le_trans (hz4.len Hle.out) (by decide)) Hle.out).mono ?_; rintro e w5 ⟨rfl, hb5⟩; have hb35 := bthen hb3 (bthen (al1' w2 (.cells #[.bool p3, .slice A3 n3 c3] 24)) hb5 (Nat.le_refl _)) (Nat.le_refl _); have b3 := (hb35.block g hgr).trans hB0.out; have hl3 : g < w5.heap.size := (Array.getElem?_eq_some_iff.1 b3).1; obtain ⟨t0, t1, t2, t3⟩ := cells2 b3; have B3 := hid b3; have b75 := (hb5.block w2.heap.size (by simp)).trans b7; obtain ⟨r0, r1, r2, r3⟩ := cells2 b75; have hz5 := hz4.below hb5; clear b3 b7 b75))
          have hst := fun (a : Bool) (x : Value) => hid (((bthen hfinb.out hb35 (Nat.le_refl _)).setCell (p := ⟨g, 0, none⟩) (by show w.heap.size ≤ g; have := Hg0.out; omega) (.bool a)).setCell (p := ⟨g, 1, none⟩) (by show w.heap.size ≤ g; have := Hg0.out; omega) x)
          have hG := hid (show ¬ Good (bl s) from fun h => by have := (good_cmp s HC.out).2 h; cases this)
          have hf := hst false (.slice none 0 0)
          clear hst hz5 hz3 hz4 hb35 hb5 hb3
          exact bodyPost_ret (v := .tuple #[.agg #[.bool false, .slice none 0 0], .int .i64 7]) (by simp [results, Tryz.results10, go_sem, t0, t1]) rfl ⟨false, none, 0, 0, 0, 7, rfl, .inr (.inr ⟨by rw [bl_len]; omega, hG.out, rfl, rfl⟩), zn_zero _, hf.out⟩

  · obtain ⟨q, hq⟩ : ∃ q, ((b.toNat : Int) == 45) = q := ⟨_, rfl⟩
    rw [hq] at hn
    go_wp2
    rw [hg0] at b0
    generalize w.alloc (.cells #[.bool false, .slice none 0 0] 24) = W0 at *
    have HB := hid hB
    have Hg0 := hid hg0
    have hgl : g < W0.heap.size := (Array.getElem?_eq_some_iff.1 b0).1
    have B0 := hid b0
    have Hn := hid hn
    clear hB hg0 b0 hn hq hib
    go_loopw [4, 6] (fun v iv wr => ∃ (i : Nat), iv = .int .i64 i ∧ i ≤ s.size ∧ Nt wr v (rdt 0 (st ((bl s).take i))) ∧ Hid (∀ b ∈ st ((bl s).take i), isD b) ∧ Hid (Below W0.heap.size W0 wr)) (fun _ iv _ => s.size - (RowKit.intOf iv).toNat)
    case atStart => exact ⟨0, by go_num, by omega, by rw [List.take_zero]; show Nt W0 _ (rdt 0 (st [])); show Nt W0 _ 0; unfold Nt; rw [dig_zero]; exact Ls.nil _, hid (by rw [List.take_zero]; intro b hb; exact absurd hb (by simp [st])), hid (Below.refl _ _)⟩
    case round =>
      obtain ⟨i, rfl, hi, hv, hd, hbel⟩ := hrel
      by_cases hlt : i < s.size
      · obtain ⟨b, hb⟩ := bl_get hlt
        have hib := idx_run s i b hb i rfl
        by_cases hsk : i = 0 ∧ b = 45
        · obtain ⟨rfl, rfl⟩ := hsk
          have hst := st_skip hb
          have hst0 : st ((bl s).take 0) = [] := by rw [List.take_zero]; rfl
          rw [hst0] at hv hd
          have Hst := hid hst
          have hqt : q = true := by
            rw [← Hn.out, ng_iff, List.head?_eq_getElem?]; exact hb
          subst hqt
          clear hb hst hst0 hib
          go_wp2
          go_roundw
          case rel => exact ⟨1, rfl, by omega, by rw [Hst.out]; exact hv, hid (by rw [Hst.out]; exact hd.out), hbel⟩
          case measure => simp [RowKit.intOf]; omega
        · have hsn := hid (st_snoc hb hsk)
          have hms := hid (mem_st hb hsk)
          by_cases hdig : isD b
          · have hb48 := hdig.1
            have hb57 := hdig.2
            have hsk' : ((i : Int) == 0) = false ∨ (((i : Int) == 0) = true ∧ q = false) := by
              by_cases e : i = 0
              · right
                refine ⟨by rw [e]; rfl, ?_⟩
                have hne : ¬ b = 45 := fun e2 => hsk ⟨e, e2⟩
                rw [← Hn.out]
                unfold ng
                rw [List.head?_eq_getElem?, ← e, hb, beq_eq_false_iff_ne]
                intro e2; injection e2 with e2; exact hne e2
              · left; rw [beq_eq_false_iff_ne]; omega
            have Hsk := hid hsk
            have Hdig := hid hdig
            have Hb := hid hb
            obtain ⟨N, hN⟩ : ∃ N, rdt 0 (st ((bl s).take i)) = N := ⟨_, rfl⟩
            have hN1 : N < 10 ^ 1000 := by
              rw [← hN]
              refine rd_cut (k := 1000) hd.out ?_
              have := st_len ((bl s).take i)
              rw [List.length_take] at this
              rw [bl_len] at this
              omega
            obtain ⟨hNl1, hNl2⟩ := dig_ten hN1
            rw [hN] at hv
            have HN := hid hN
            obtain ⟨d, hd0⟩ : ∃ d : Nat, d = b.toNat - 48 := ⟨_, rfl⟩
            have hdX : ((b.toNat : Int) - 48) = (d : Int) := by omega
            have hd10 : d < 10 := by omega
            have hdu : IntKind.u8.wrap (d : Int) = (d : Int) := by rw [IntKind.wrap_u8]; omega
            have hdi : IntKind.i64.wrap (d : Int) = (d : Int) := by rw [IntKind.wrap_i64]; omega
            have hdl : (dig d).length ≤ 1 := dig_length_le (by omega)
            have Hd0 := hid hd0
            clear hsk hdig hb hN hN1 hd0
            rcases hsk' with hsk' | ⟨hsk', hsk2⟩
            all_goals
              try subst hsk2
              go_wp2_with fail
              have N10 := nt_ten
              have E1 := fun o : Obj => size_one wr o
              have F1 := (N10 wr).below dr0
              have F2 := fun o : Obj => ((N10 wr).below (al1' _ o)).below dr0
              have F3 := fun o : Obj => (nt_ten' wr o).below dr0
              have D1 := (ls_one wr d d rfl).below dr0
              have D2 := fun o : Obj => ((ls_one wr d d rfl).below (al1' _ o)).below dr0
              have D3 := fun o : Obj => (ls_one' wr o d d rfl).below dr0
              have V1 := fun o : Obj => (hv.below (al1' wr o)).below dr0
              have V2 := fun o p : Obj => ((hv.below (al1' wr o)).below (al1' _ p)).below dr0
              have hT10 : (dig 10).length ≤ 400000 := by rw [dig_small (by decide) (by decide)]; decide
              have hLd : Lim [d] := fun x hx => by rw [List.mem_singleton] at hx; omega
              have hvd : val [d] = d := by show d + 65536 * 0 = d; omega
              go_region_held3 (fun w' => True) (exact trivial) (first
                | (go_at_call 47; (first | with_reducible refine (rtimes _ _ N 10 _ (V1 _) F1 (by omega) hT10).mono ?_ | with_reducible refine (rtimes _ _ N 10 _ (V2 _ _) (F2 _) (by omega) hT10).mono ?_ | with_reducible refine (rtimes _ _ N 10 _ (V2 _ _) (F3 _) (by omega) hT10).mono ?_ | with_reducible refine (rtimes _ _ N 10 _ hv1 k10 (by omega) hT10).mono ?_ | with_reducible refine (rtimes _ _ N 10 _ (hv1.below al1) (N10 _) (by omega) hT10).mono ?_); rintro e wt ⟨zt, rfl, hzt, hbt⟩; (try replace hzd := hzd.below hbt); (try replace hzd := (hzd.below al1).below hbt); (first | have kd := (D2 _).below hbt | have kd := (D3 _).below hbt | skip); (first | (replace hcc := bthen hcc hbt (Nat.le_refl _)) | (replace hcc := bthen hcc (bthen al1 hbt (Nat.le_refl _)) (Nat.le_refl _)) | have hcc := bthen (dr1 (W := wr)) hbt (Nat.le_refl _) | have hcc := bthen (dr2 (W := wr)) hbt (Nat.le_refl _)))
                | (go_at_call 48; (first | with_reducible refine (rtrim _ [d] _ D1 hLd (by simp)).mono ?_ | with_reducible refine (rtrim _ [d] _ (D2 _) hLd (by simp)).mono ?_ | with_reducible refine (rtrim _ [d] _ (D3 _) hLd (by simp)).mono ?_ | with_reducible refine (rtrim _ [d] _ kd hLd (by simp)).mono ?_ | with_reducible refine (rtrim _ [d] _ (ls_one _ d d rfl) hLd (by simp)).mono ?_); rintro e w1 ⟨zd, rfl, hzd, hfs, hbd⟩; rw [hvd] at hzd; clear hfs; (try replace hzt := hzt.below hbd); (try replace hzt := (hzt.below al1).below hbd); (first | have hv1 := (V1 _).below hbd | have hv1 := (V2 _ _).below hbd | skip); (first | have k10 := (F2 _).below hbd | have k10 := (F3 _).below hbd | skip); (first | (replace hcc := bthen hcc hbd (Nat.le_refl _)) | (replace hcc := bthen hcc (bthen al1 hbd (Nat.le_refl _)) (Nat.le_refl _)) | have hcc := bthen (dr1 (W := wr)) hbd (Nat.le_refl _) | have hcc := bthen (dr2 (W := wr)) hbd (Nat.le_refl _)))
                | (go_at_call 46; (with_reducible refine (rplus _ _ (N * 10) d _ hzt hzd (by omega) (by omega)).mono ?_); rintro e w9 ⟨z9, rfl, hz9, hb9⟩; replace hcc := bthen hcc hb9 (Nat.le_refl _)))

              all_goals
                go_wp2
                go_roundw
                case rel =>
                  refine ⟨i + 1, by go_num, by omega, ?_, ?_, hid (bthen hbel.out hcc (Nat.le_refl _))⟩
                  · rw [hsn.out, rd_append, HN.out, ← Hd0.out, Nat.mul_comm 10 N]; exact hz9
                  · refine hid ?_
                    rw [hsn.out]
                    intro c hc
                    rcases List.mem_append.1 hc with hc | hc
                    · exact hd.out c hc
                    · rw [List.mem_singleton] at hc; subst hc; exact Hdig.out
                case measure => simp [RowKit.intOf]; omega
          · have hbad := hid (show ¬ Good (bl s) from fun h => hdig (h.1.2.1 b hms.out))
            obtain ⟨x0, x1, x2, x3⟩ := cells2 ((hbel.out.block g hgl).trans B0.out)
            have hgr := Nat.lt_of_lt_of_le hgl hbel.out.size
            have hfin := hid (((bthen HB.out hbel.out (Nat.le_refl _)).setCell (p := ⟨g, 0, none⟩) (by show w.heap.size ≤ g; have := Hg0.out; omega) (.bool false)).setCell (p := ⟨g, 1, none⟩) (by show w.heap.size ≤ g; have := Hg0.out; omega) (.slice none 0 0))
            have hsk' : ((i : Int) == 0) = false ∨ (((i : Int) == 0) = true ∧ q = false) := by
              by_cases e : i = 0
              · right
                refine ⟨by rw [e]; rfl, ?_⟩
                have hne : ¬ b = 45 := fun e2 => hsk ⟨e, e2⟩
                rw [← Hn.out]
                unfold ng
                rw [List.head?_eq_getElem?, ← e, hb, beq_eq_false_iff_ne]
                intro e2; injection e2 with e2; exact hne e2
              · left; rw [beq_eq_false_iff_ne]; omega
            have hnd : b.toNat < 48 ∨ (¬ b.toNat < 48 ∧ 57 < b.toNat) := by
              by_cases e : b.toNat < 48
              · exact .inl e
              · exact .inr ⟨e, Nat.lt_of_not_le fun e2 => hdig ⟨by omega, e2⟩⟩
            clear hsk hdig hb hv hd
            rcases hnd with hn1 | ⟨hn1, hn2⟩
            all_goals
              rcases hsk' with hsk' | ⟨hsk', hsk2⟩
              all_goals
                try subst hsk2
                go_wp2
                exact bodyPost_ret (v := .tuple #[.agg #[.bool false, .slice none 0 0], .int .i64 7]) (by simp [results, Tryz.results10, go_sem, x0, x1]) rfl ⟨false, none, 0, 0, 0, 7, rfl, .inr (.inr ⟨by rw [bl_len]; omega, hbad.out, rfl, rfl⟩), zn_zero _, hfin.out⟩
      · obtain rfl : i = s.size := by omega
        have htk : (bl s).take s.size = bl s := by rw [← bl_len, List.take_length]
        rw [htk] at hv hd
        have h1 : rdt 0 (st (bl s)) < 10 ^ 1000 := by
          refine rd_cut (k := 1000) hd.out ?_
          have := st_len (bl s)
          rw [bl_len] at this
          omega
        have hlr : (dig (rdt 0 (st (bl s)))).length ≤ 1000000 := by
          have := (dig_ten h1).2
          omega
        have hle : Le 1000 (rz (bl s)) := rz_le h1
        have hB0 := hid ((hbel.out.block g hgl).trans B0.out)
        have hgr := Nat.lt_of_lt_of_le hgl hbel.out.size
        have hmd := rmade q u4 _ wr hv hlr
        have hrz : toZ q (rdt 0 (st (bl s))) = rz (bl s) := by rw [← Hn.out, rz_toZ]
        rw [hrz] at hmd
        have hfinb := hid (bthen HB.out hbel.out (Nat.le_refl _))
        have Hle := hid hle
        have hgr2 := hgr
        clear hv hd htk hlr hbel hrz h1 hle
        obtain ⟨F, hF⟩ : ∃ F, Hid ((⟨(itoa (rz (bl s))).toArray⟩ : ByteArray) = F) := ⟨_, rfl⟩
        obtain ⟨C, hC⟩ : ∃ C : Bool, (F.toList == s.toList) = C := ⟨_, rfl⟩
        have HC := hid (show ((⟨(itoa (rz (bl s))).toArray⟩ : ByteArray).toList == s.toList) = C by rw [hF.out]; exact hC)
        cases C with
        | true =>
          go_wp2_with (first
            | (go_at_call 49; refine hmd.mono ?_; rintro e w2 ⟨p3, A3, n3, c3, rfl, hz3, hb3⟩; have b7 := heap_alloc_new w2 (.cells #[.bool p3, .slice A3 n3 c3] 24); have hz4 := hz3.below (al1' w2 (.cells #[.bool p3, .slice A3 n3 c3] 24)))
            | (go_at_call 13; refine (rFormatF F hF.out hz4.zi (Nat.le_trans (hz4.len Hle.out) (by decide)) Hle.out).mono ?_; rintro e w5 ⟨rfl, hb5⟩; have hb35 := bthen hb3 (bthen (al1' w2 (.cells #[.bool p3, .slice A3 n3 c3] 24)) hb5 (Nat.le_refl _)) (Nat.le_refl _); have b3 := (hb35.block g hgr).trans hB0.out; have hl3 : g < w5.heap.size := (Array.getElem?_eq_some_iff.1 b3).1; obtain ⟨t0, t1, t2, t3⟩ := cells2 b3; have B3 := hid b3; have b75 := (hb5.block w2.heap.size (by simp)).trans b7; obtain ⟨r0, r1, r2, r3⟩ := cells2 b75; have hz5 := hz4.below hb5; clear b3 b7 b75))
          have hst := fun (a : Bool) (x : Value) => hid (((bthen hfinb.out hb35 (Nat.le_refl _)).setCell (p := ⟨g, 0, none⟩) (by show w.heap.size ≤ g; have := Hg0.out; omega) (.bool a)).setCell (p := ⟨g, 1, none⟩) (by show w.heap.size ≤ g; have := Hg0.out; omega) x)
          have hG := hid ((good_cmp s HC.out).1 rfl)
          have m3 := hid (hz5.offbox B3.out (noInt_zero _ _ _ _) (gb2 _ g 0 1 (.bool p3) (.slice A3 n3 c3)))
          have hf := hst p3 (.slice A3 n3 c3)
          clear hst hz5 hz3 hz4 hb35 hb5 hb3
          exact bodyPost_ret (v := .tuple #[.agg #[.bool p3, .slice A3 n3 c3], .int .i64 0]) (by simp [results, Tryz.results10, go_sem, t0, t1]) rfl ⟨p3, A3, n3, c3, _, 0, rfl, .inr (.inl ⟨by rw [bl_len]; omega, hG.out, rfl, rfl⟩), m3.out, hf.out⟩
        | false =>
          go_wp2_with (first
            | (go_at_call 49; refine hmd.mono ?_; rintro e w2 ⟨p3, A3, n3, c3, rfl, hz3, hb3⟩; have b7 := heap_alloc_new w2 (.cells #[.bool p3, .slice A3 n3 c3] 24); have hz4 := hz3.below (al1' w2 (.cells #[.bool p3, .slice A3 n3 c3] 24)))
            | (go_at_call 13; refine (rFormatF F hF.out hz4.zi (Nat.le_trans (hz4.len Hle.out) (by decide)) Hle.out).mono ?_; rintro e w5 ⟨rfl, hb5⟩; have hb35 := bthen hb3 (bthen (al1' w2 (.cells #[.bool p3, .slice A3 n3 c3] 24)) hb5 (Nat.le_refl _)) (Nat.le_refl _); have b3 := (hb35.block g hgr).trans hB0.out; have hl3 : g < w5.heap.size := (Array.getElem?_eq_some_iff.1 b3).1; obtain ⟨t0, t1, t2, t3⟩ := cells2 b3; have B3 := hid b3; have b75 := (hb5.block w2.heap.size (by simp)).trans b7; obtain ⟨r0, r1, r2, r3⟩ := cells2 b75; have hz5 := hz4.below hb5; clear b3 b7 b75))
          have hst := fun (a : Bool) (x : Value) => hid (((bthen hfinb.out hb35 (Nat.le_refl _)).setCell (p := ⟨g, 0, none⟩) (by show w.heap.size ≤ g; have := Hg0.out; omega) (.bool a)).setCell (p := ⟨g, 1, none⟩) (by show w.heap.size ≤ g; have := Hg0.out; omega) x)
          have hG := hid (show ¬ Good (bl s) from fun h => by have := (good_cmp s HC.out).2 h; cases this)
          have hf := hst false (.slice none 0 0)
          clear hst hz5 hz3 hz4 hb35 hb5 hb3
          exact bodyPost_ret (v := .tuple #[.agg #[.bool false, .slice none 0 0], .int .i64 7]) (by simp [results, Tryz.results10, go_sem, t0, t1]) rfl ⟨false, none, 0, 0, 0, 7, rfl, .inr (.inr ⟨by rw [bl_len]; omega, hG.out, rfl, rfl⟩), zn_zero _, hf.out⟩


end Go.Proofs.YtgdclneolgmggaaGreatDoor
