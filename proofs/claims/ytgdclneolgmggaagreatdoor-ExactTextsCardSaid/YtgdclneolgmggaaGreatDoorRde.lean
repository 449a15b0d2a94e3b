/- The reference's decimal: what digits read as, perhaps behind a minus sign, or the error. For all texts of at most a thousand bytes. -/
import Derived.Test.YtgdclneolgmggaaGreatDoorRfm
import Derived.Test.YtgdclneolgmggaaGreatDoorMJ
namespace Go.Proofs.YtgdclneolgmggaaGreatDoor
open Go.RowKit Kb Go.Lib

/-- Digits, perhaps behind a minus sign, perhaps none. -/
def Ad (l : List UInt8) : Prop := ∀ b ∈ st l, isD b

theorem st_snoc {l : List UInt8} {i : Nat} {b : UInt8} (h : l[i]? = some b) (hn : ¬ (i = 0 ∧ b = 45)) : st (l.take (i + 1)) = st (l.take i) ++ [b] := by
  rw [take_snoc h]
  have hi := (List.getElem?_eq_some_iff.1 h).1
  rcases Nat.eq_zero_or_pos i with e | e
  · subst e
    rw [List.take_zero]
    unfold st
    rw [if_neg (fun e => hn ⟨rfl, by injection e⟩), if_neg (by simp)]
  · have hne : l.take i ≠ [] := fun e2 => by
      have := congrArg List.length e2
      rw [List.length_take, List.length_nil] at this
      omega
    unfold st
    rw [head_snoc hne]
    by_cases h1 : (l.take i).head? = some 45
    · rw [if_pos h1, if_pos h1, List.tail_append_of_ne_nil hne]
    · rw [if_neg h1, if_neg h1]

theorem mem_st {l : List UInt8} {i : Nat} {b : UInt8} (h : l[i]? = some b) (hn : ¬ (i = 0 ∧ b = 45)) : b ∈ st l := by
  have e := st_snoc h hn
  have hm : b ∈ st (l.take (i + 1)) := by rw [e]; simp
  have hp : ∀ (k : List UInt8), k = l.take (i + 1) → b ∈ st k → b ∈ st l := by
    intro k hk hb
    unfold st at hb ⊢
    have hh : k.head? = l.head? := by rw [hk]; cases l with
      | nil => simp
      | cons c l => rfl
    rw [hh] at hb
    by_cases h1 : l.head? = some 45
    · rw [if_pos h1] at hb ⊢
      rw [hk] at hb
      cases l with
      | nil => simp at hb
      | cons c l => exact List.mem_of_mem_take (by simpa using hb)
    · rw [if_neg h1] at hb ⊢
      rw [hk] at hb
      exact List.mem_of_mem_take hb
  exact hp _ rfl hm

theorem st_skip {l : List UInt8} (h : l[0]? = some 45) : st (l.take 1) = [] := by
  rw [take_snoc h, List.take_zero]; rfl

theorem ls_one (w : World) (X : Int) (d : Nat) (h : X = (d : Int)) : Ls (w.alloc (.cells #[.int .i64 X] 3)) (.slice (some ⟨w.heap.size, 0, none⟩) 1 1) [d] := by
  subst h
  exact Ls.of_row (o := [d]) (Row.new w 3 .i64 [d]) (by simp)

theorem size_one (w : World) (o : Obj) : (w.alloc o).heap.size = w.heap.size + 1 := by simp
theorem nt_ten (w : World) : Nt (w.alloc (.cells #[.int .i64 10] 3)) (.slice (some ⟨w.heap.size, 0, none⟩) 1 1) 10 := nt_one w 10 (by decide) (by decide)
theorem nt_ten' (w : World) (o : Obj) : Nt ((w.alloc o).alloc (.cells #[.int .i64 10] 3)) (.slice (some ⟨w.heap.size + 1, 0, none⟩) 1 1) 10 := by
  have := nt_ten (w.alloc o)
  rwa [size_one] at this
theorem ls_one' (w : World) (o : Obj) (X : Int) (d : Nat) (h : X = (d : Int)) : Ls ((w.alloc o).alloc (.cells #[.int .i64 X] 3)) (.slice (some ⟨w.heap.size + 1, 0, none⟩) 1 1) [d] := by
  have := ls_one (w.alloc o) X d h
  rwa [size_one] at this
theorem rd_cut {l : List UInt8} {k : Nat} (h : ∀ b ∈ l, isD b) (hl : l.length ≤ k) : rdt 0 l < 10 ^ k := Nat.lt_of_lt_of_le (rd_lt _ h) (Nat.pow_le_pow_right (by decide) hl)
theorem dig_ten_any {N k : Nat} (h : N < 10 ^ k) (hk : 0 < k) : (dig (N * 10)).length ≤ k ∧ (dig N).length ≤ k := by
  have h1 : (10 : Nat) ^ (k + 1) ≤ 65536 ^ k := by
    refine Nat.le_trans (Nat.pow_le_pow_right (by decide) (show k + 1 ≤ 4 * k by omega)) ?_
    rw [Nat.pow_mul]
    exact Nat.pow_le_pow_left (by decide) _
  have h2 : (10 : Nat) ^ (k + 1) = 10 ^ k * 10 := Nat.pow_succ ..
  exact ⟨dig_length_le (by omega), dig_length_le (by omega)⟩
theorem dig_ten {N : Nat} (h : N < 10 ^ 1000) : (dig (N * 10)).length ≤ 1000 ∧ (dig N).length ≤ 1000 := dig_ten_any h (by decide)

set_option maxRecDepth 100000 in
set_option maxHeartbeats 8000000 in
theorem rDec (s : ByteArray) (w : World) (hs : s.size ≤ 1000) :
    Calls Tryz.prog 51 #[.string s] w fun e w' => (¬ Ad (bl s) ∧ e = .returned (.tuple #[.agg #[.bool false, .slice none 0 0], .int .i64 7]) ∨ Ad (bl s) ∧ ∃ p A n c, e = .returned (.tuple #[.agg #[.bool p, .slice A n c], .int .i64 0]) ∧ Zn w' p A n c (rz (bl s))) ∧ Below w.heap.size w w' := by
  have b0 := heap_alloc_new w (.cells #[.bool false, .slice none 0 0] 24)
  have hB := (Below.refl w.heap.size w).alloc (Nat.le_refl _) (.cells #[.bool false, .slice none 0 0] 24)
  obtain ⟨g, hg0⟩ : ∃ g, w.heap.size = g := ⟨_, rfl⟩
  go_enter Tryz.func51, Tryz.ntmps51
  go_wp2
  rw [hg0] at b0
  generalize w.alloc (.cells #[.bool false, .slice none 0 0] 24) = W0 at *
  have HB := hid hB
  have Hg0 := hid hg0
  have hgl : g < W0.heap.size := (Array.getElem?_eq_some_iff.1 b0).1
  have B0 := hid b0
  clear hB hg0 b0
  go_loopw [4, 5] (fun v iv wr => ∃ (i : Nat), iv = .int .i64 i ∧ i ≤ s.size ∧ Nt wr v (rdt 0 (st ((bl s).take i))) ∧ Hid (∀ b ∈ st ((bl s).take i), isD b) ∧ Hid (Below W0.heap.size W0 wr)) (fun _ iv _ => s.size - (RowKit.intOf iv).toNat)
  case atStart => exact ⟨0, by go_num, by omega, by rw [List.take_zero]; show Nt W0 _ (rdt 0 (st [])); show Nt W0 _ 0; unfold Nt; rw [dig_zero]; exact Ls.nil _, hid (by rw [List.take_zero]; intro b hb; exact absurd hb (by simp [st])), hid (Below.refl _ _)⟩
  case round =>
    obtain ⟨i, rfl, hi, hv, hd, hbel⟩ := hrel
    by_cases hlt : i < s.size
    · obtain ⟨b, hb⟩ := bl_get hlt
      have hib := idx_run s i b hb i rfl
      by_cases hsk : i = 0 ∧ b = 45
      · obtain ⟨rfl, rfl⟩ := hsk
        have hst := st_skip hb
        have hst0 : st ((bl s).take 0) = [] := by rw [List.take_zero]; rfl
        rw [hst0] at hv hd
        have Hst := hid hst
        have hib0 : ∀ W, (Instr.index 9 (.string s) (.int .i64 0)).run Tryz.prog W = .ok (.int .u8 45) W := idx_run s 0 45 hb 0 rfl
        clear hb hst hst0 hib
        go_wp2
        go_roundw
        case rel => exact ⟨1, rfl, by omega, by rw [Hst.out]; exact hv, hid (by rw [Hst.out]; exact hd.out), hbel⟩
        case measure => simp [RowKit.intOf]; omega
      · have hsn := hid (st_snoc hb hsk)
        have hms := hid (mem_st hb hsk)
        by_cases hdig : isD b
        · have hb48 := hdig.1
          have hb57 := hdig.2
          have hsk' : ((i : Int) == 0) = false ∨ (((i : Int) == 0) = true ∧ ((b.toNat : Int) == 45) = false) := by
            by_cases e : i = 0
            · right
              refine ⟨by rw [e]; rfl, ?_⟩
              rw [beq_eq_false_iff_ne]; intro e2
              exact hsk ⟨e, UInt8.toNat_inj.1 (by show b.toNat = 45; omega)⟩
            · left; rw [beq_eq_false_iff_ne]; omega
          have Hsk := hid hsk
          have Hdig := hid hdig
          have Hb := hid hb
          obtain ⟨N, hN⟩ : ∃ N, rdt 0 (st ((bl s).take i)) = N := ⟨_, rfl⟩
          have hN1 : N < 10 ^ 1000 := by
            rw [← hN]
            refine rd_cut (k := 1000) hd.out ?_
            have := st_len ((bl s).take i)
            rw [List.length_take] at this
            rw [bl_len] at this
            omega
          have hNl : (dig (N * 10)).length ≤ 1000 ∧ (dig N).length ≤ 1000 := dig_ten hN1
          obtain ⟨hNl1, hNl2⟩ := hNl
          rw [hN] at hv
          have HN := hid hN
          obtain ⟨d, hd0⟩ : ∃ d : Nat, d = b.toNat - 48 := ⟨_, rfl⟩
          have hdX : ((b.toNat : Int) - 48) = (d : Int) := by omega
          have hd10 : d < 10 := by omega
          have hdu : IntKind.u8.wrap (d : Int) = (d : Int) := by rw [IntKind.wrap_u8]; omega
          have hdi : IntKind.i64.wrap (d : Int) = (d : Int) := by rw [IntKind.wrap_i64]; omega
          have hdl : (dig d).length ≤ 1 := dig_length_le (by omega)
          have Hd0 := hid hd0
          clear hsk hdig hb hN hN1 hd0
          rcases hsk' with hsk' | ⟨hsk', hsk2⟩
          all_goals
            go_wp2_with fail
            have N10 := nt_ten
            have E1 := fun o : Obj => size_one wr o
            have F1 := (N10 wr).below dr0
            have F2 := fun o : Obj => ((N10 wr).below (al1' _ o)).below dr0
            have F3 := fun o : Obj => (nt_ten' wr o).below dr0
            have D1 := (ls_one wr d d rfl).below dr0
            have D2 := fun o : Obj => ((ls_one wr d d rfl).below (al1' _ o)).below dr0
            have D3 := fun o : Obj => (ls_one' wr o d d rfl).below dr0
            have V1 := fun o : Obj => (hv.below (al1' wr o)).below dr0
            have V2 := fun o p : Obj => ((hv.below (al1' wr o)).below (al1' _ p)).below dr0
            have hT10 : (dig 10).length ≤ 400000 := by rw [dig_small (by decide) (by decide)]; decide
            have hLd : Lim [d] := fun x hx => by rw [List.mem_singleton] at hx; omega
            have hvd : val [d] = d := by show d + 65536 * 0 = d; omega
            go_region_held3 (fun w' => True) (exact trivial) (first
              | (go_at_call 47; (first | with_reducible refine (rtimes _ _ N 10 _ (V1 _) F1 (by omega) hT10).mono ?_ | with_reducible refine (rtimes _ _ N 10 _ (V2 _ _) (F2 _) (by omega) hT10).mono ?_ | with_reducible refine (rtimes _ _ N 10 _ (V2 _ _) (F3 _) (by omega) hT10).mono ?_ | with_reducible refine (rtimes _ _ N 10 _ hv1 k10 (by omega) hT10).mono ?_ | with_reducible refine (rtimes _ _ N 10 _ (hv1.below al1) (N10 _) (by omega) hT10).mono ?_); rintro e wt ⟨zt, rfl, hzt, hbt⟩; (try replace hzd := hzd.below hbt); (try replace hzd := (hzd.below al1).below hbt); (first | have kd := (D2 _).below hbt | have kd := (D3 _).below hbt | skip); (first | (replace hcc := bthen hcc hbt (Nat.le_refl _)) | (replace hcc := bthen hcc (bthen al1 hbt (Nat.le_refl _)) (Nat.le_refl _)) | have hcc := bthen (dr1 (W := wr)) hbt (Nat.le_refl _) | have hcc := bthen (dr2 (W := wr)) hbt (Nat.le_refl _)))
              | (go_at_call 48; (first | with_reducible refine (rtrim _ [d] _ D1 hLd (by simp)).mono ?_ | with_reducible refine (rtrim _ [d] _ (D2 _) hLd (by simp)).mono ?_ | with_reducible refine (rtrim _ [d] _ (D3 _) hLd (by simp)).mono ?_ | with_reducible refine (rtrim _ [d] _ kd hLd (by simp)).mono ?_ | with_reducible refine (rtrim _ [d] _ (ls_one _ d d rfl) hLd (by simp)).mono ?_); rintro e w1 ⟨zd, rfl, hzd, hfs, hbd⟩; rw [hvd] at hzd; clear hfs; (try replace hzt := hzt.below hbd); (try replace hzt := (hzt.below al1).below hbd); (first | have hv1 := (V1 _).below hbd | have hv1 := (V2 _ _).below hbd | skip); (first | have k10 := (F2 _).below hbd | have k10 := (F3 _).below hbd | skip); (first | (replace hcc := bthen hcc hbd (Nat.le_refl _)) | (replace hcc := bthen hcc (bthen al1 hbd (Nat.le_refl _)) (Nat.le_refl _)) | have hcc := bthen (dr1 (W := wr)) hbd (Nat.le_refl _) | have hcc := bthen (dr2 (W := wr)) hbd (Nat.le_refl _)))
              | (go_at_call 46; (with_reducible refine (rplus _ _ (N * 10) d _ hzt hzd (by omega) (by omega)).mono ?_); rintro e w9 ⟨z9, rfl, hz9, hb9⟩; replace hcc := bthen hcc hb9 (Nat.le_refl _)))
            all_goals
              go_wp2
              go_roundw
              case rel =>
                refine ⟨i + 1, by go_num, by omega, ?_, ?_, hid (bthen hbel.out hcc (Nat.le_refl _))⟩
                · rw [hsn.out, rd_append, HN.out, ← Hd0.out, Nat.mul_comm 10 N]; exact hz9
                · refine hid ?_
                  rw [hsn.out]
                  intro c hc
                  rcases List.mem_append.1 hc with hc | hc
                  · exact hd.out c hc
                  · rw [List.mem_singleton] at hc; subst hc; exact Hdig.out
              case measure => simp [RowKit.intOf]; omega
        · have hbad := hid (show ¬ Ad (bl s) from fun h => hdig (h b hms.out))
          obtain ⟨x0, x1, x2, x3⟩ := cells2 ((hbel.out.block g hgl).trans B0.out)
          have hgr := Nat.lt_of_lt_of_le hgl hbel.out.size
          have hfin := hid (((bthen HB.out hbel.out (Nat.le_refl _)).setCell (p := ⟨g, 0, none⟩) (by show w.heap.size ≤ g; have := Hg0.out; omega) (.bool false)).setCell (p := ⟨g, 1, none⟩) (by show w.heap.size ≤ g; have := Hg0.out; omega) (.slice none 0 0))
          have hsk' : ((i : Int) == 0) = false ∨ (((i : Int) == 0) = true ∧ ((b.toNat : Int) == 45) = false) := by
            by_cases e : i = 0
            · right
              refine ⟨by rw [e]; rfl, ?_⟩
              rw [beq_eq_false_iff_ne]; intro e2
              exact hsk ⟨e, UInt8.toNat_inj.1 (by show b.toNat = 45; omega)⟩
            · left; rw [beq_eq_false_iff_ne]; omega
          have hnd : b.toNat < 48 ∨ (¬ b.toNat < 48 ∧ 57 < b.toNat) := by
            by_cases e : b.toNat < 48
            · exact .inl e
            · exact .inr ⟨e, Nat.lt_of_not_le fun e2 => hdig ⟨by omega, e2⟩⟩
          clear hsk hdig hb hv hd
          rcases hnd with hn1 | ⟨hn1, hn2⟩
          all_goals
            rcases hsk' with hsk' | ⟨hsk', hsk2⟩
            all_goals
              go_wp2
              exact bodyPost_ret (v := .tuple #[.agg #[.bool false, .slice none 0 0], .int .i64 7]) (by simp [results, Tryz.results51, go_sem, x0, x1]) rfl ⟨.inl ⟨hbad.out, rfl⟩, hfin.out⟩
    · obtain rfl : i = s.size := by omega
      have htk : (bl s).take s.size = bl s := by rw [← bl_len, List.take_length]
      rw [htk] at hv hd
      have hok := hid (show Ad (bl s) from hd.out)
      have hlr : (dig (rdt 0 (st (bl s)))).length ≤ 1000000 := by
        have h1 : rdt 0 (st (bl s)) < 10 ^ 1000 := by
          refine rd_cut (k := 1000) hd.out ?_
          have := st_len (bl s)
          rw [bl_len] at this
          omega
        have := (dig_ten h1).2
        omega
      have hB0 := hid ((hbel.out.block g hgl).trans B0.out)
      have hgr := Nat.lt_of_lt_of_le hgl hbel.out.size
      have hng := fun p : Bool => rmade p u4 _ wr hv hlr
      have hcase : (s.size = 0 ∧ ng (bl s) = false) ∨ (0 < s.size ∧ ∃ b : UInt8, (∀ W, (Instr.index 9 (.string s) (.int .i64 0)).run Tryz.prog W = .ok (.int .u8 ((b.toNat : Nat) : Int)) W) ∧ ng (bl s) = ((b.toNat : Int) == 45)) := by
        rcases Nat.eq_zero_or_pos s.size with e | e
        · refine .inl ⟨e, ?_⟩
          have : bl s = [] := List.eq_nil_of_length_eq_zero (by rw [bl_len]; exact e)
          rw [this]; rfl
        · obtain ⟨b, hb⟩ := bl_get e
          refine .inr ⟨e, b, idx_run s 0 b hb 0 rfl, ?_⟩
          have hh : (bl s).head? = some b := by rw [List.head?_eq_getElem?]; exact hb
          unfold ng
          rw [hh]
          by_cases h45 : b = 45
          · subst h45; rfl
          · rw [beq_eq_false_iff_ne.2 (fun e => h45 (by injection e)), Eq.comm, beq_eq_false_iff_ne]
            intro e2
            exact h45 (UInt8.toNat_inj.1 (by show b.toNat = 45; omega))
      have hfinb := hid (bthen HB.out hbel.out (Nat.le_refl _))
      clear hv hd htk hlr hbel
      rcases hcase with ⟨h0, hn⟩ | ⟨h0, b, hib, hn⟩
      · have hmd := hng false
        rw [← hn, rz_toZ] at hmd
        rw [hn] at hmd
        clear hng
        have hs0 : ((s.size : Int)) = 0 := by omega
        go_wp2_with (go_at_call 49; refine hmd.mono ?_; rintro e w2 ⟨p3, A3, n3, c3, rfl, hz3, hb3⟩; have b3 := (hb3.block g hgr).trans hB0.out; have hl3 : g < w2.heap.size := (Array.getElem?_eq_some_iff.1 b3).1; obtain ⟨t0, t1, t2, t3⟩ := cells2 b3; have B3 := hid b3; clear b3)
        have h4 := ((bthen hfinb.out hb3 (Nat.le_refl _)).setCell (p := ⟨g, 0, none⟩) (by show w.heap.size ≤ g; have := Hg0.out; omega) (.bool p3)).setCell (p := ⟨g, 1, none⟩) (by show w.heap.size ≤ g; have := Hg0.out; omega) (.slice A3 n3 c3)
        have m3 := hz3.offbox B3.out (noInt_zero _ _ _ _) (gb2 _ g 0 1 (.bool p3) (.slice A3 n3 c3))
        exact bodyPost_ret (v := .tuple #[.agg #[.bool p3, .slice A3 n3 c3], .int .i64 0]) (by simp [results, Tryz.results51, go_sem, t0, t1]) rfl ⟨.inr ⟨hok.out, p3, A3, n3, c3, rfl, m3⟩, h4⟩
      · obtain ⟨q, hq⟩ : ∃ q, ((b.toNat : Int) == 45) = q := ⟨_, rfl⟩
        have hmd := hng q
        rw [hq] at hn
        rw [← hn, rz_toZ] at hmd
        rw [hn] at hmd
        clear hng
        go_wp2_with (go_at_call 49; refine hmd.mono ?_; rintro e w2 ⟨p3, A3, n3, c3, rfl, hz3, hb3⟩; have b3 := (hb3.block g hgr).trans hB0.out; have hl3 : g < w2.heap.size := (Array.getElem?_eq_some_iff.1 b3).1; obtain ⟨t0, t1, t2, t3⟩ := cells2 b3; have B3 := hid b3; clear b3)
        have h4 := ((bthen hfinb.out hb3 (Nat.le_refl _)).setCell (p := ⟨g, 0, none⟩) (by show w.heap.size ≤ g; have := Hg0.out; omega) (.bool p3)).setCell (p := ⟨g, 1, none⟩) (by show w.heap.size ≤ g; have := Hg0.out; omega) (.slice A3 n3 c3)
        have m3 := hz3.offbox B3.out (noInt_zero _ _ _ _) (gb2 _ g 0 1 (.bool p3) (.slice A3 n3 c3))
        exact bodyPost_ret (v := .tuple #[.agg #[.bool p3, .slice A3 n3 c3], .int .i64 0]) (by simp [results, Tryz.results51, go_sem, t0, t1]) rfl ⟨.inr ⟨hok.out, p3, A3, n3, c3, rfl, m3⟩, h4⟩

end Go.Proofs.YtgdclneolgmggaaGreatDoor
