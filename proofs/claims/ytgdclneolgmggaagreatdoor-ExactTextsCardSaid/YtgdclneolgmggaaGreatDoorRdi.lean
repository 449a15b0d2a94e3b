/- readInteger: the integer that a text is, or the error. For all texts of at most 100000 bytes. -/
import Derived.Test.YtgdclneolgmggaaGreatDoorMB
import Derived.Test.YtgdclneolgmggaaGreatDoorIpl
import Derived.Test.YtgdclneolgmggaaGreatDoorApd
import Derived.Test.YtgdclneolgmggaaGreatDoorShelf
namespace Go.Proofs.YtgdclneolgmggaaGreatDoor
open Go.RowKit Kb

/-- A text begins with a minus sign. -/
def ng (l : List UInt8) : Bool := l.head? == some 45

theorem ng_iff (l : List UInt8) : ng l = true ↔ l.head? = some 45 := by unfold ng; exact beq_iff_eq

theorem hasPre (l : List UInt8) : Lib.hasPrefix l [45] = ng l := by
  cases l with
  | nil => rfl
  | cons b l =>
    show ((45 == b) && List.isPrefixOf [] l) = _
    unfold ng
    rw [List.head?_cons]
    by_cases h : b = 45
    · subst h; cases l <;> rfl
    · rw [beq_eq_false_iff_ne.2 (Ne.symm h), Bool.false_and, Eq.comm, beq_eq_false_iff_ne]
      intro e; injection e with e; exact h e

theorem trimPre (l : List UInt8) : Lib.trimPrefix l [45] = st l := by
  unfold Lib.trimPrefix st
  rw [hasPre]
  by_cases h : l.head? = some 45
  · rw [if_pos ((ng_iff l).2 h), if_pos h]
    exact List.drop_one
  · rw [if_neg (fun e => h ((ng_iff l).1 e)), if_neg h]

theorem cutMinus (s : ByteArray) (w : World) :
    Calls Tryz.prog 80 #[.string s, .string ⟨#[45]⟩] w fun e w' => ∃ d : ByteArray, e = .returned (.tuple #[.string d, .bool (ng (bl s))]) ∧ Hid (bl d = st (bl s)) ∧ w = w' := by
  refine (Tryz.strings_CutPrefix s ⟨#[45]⟩ w).mono ?_
  rintro e w' ⟨rfl, rfl⟩
  refine ⟨⟨(st (bl s)).toArray⟩, ?_, rfl, rfl⟩
  rw [show (⟨#[45]⟩ : ByteArray).data.toList = [45] from rfl, show s.data.toList = bl s from rfl, hasPre, trimPre]

theorem st_len (l : List UInt8) : (st l).length ≤ l.length := by
  unfold st
  split
  · rw [List.length_tail]; omega
  · exact Nat.le_refl _

theorem rz_toZ (l : List UInt8) : toZ (ng l) (rdt 0 (st l)) = rz l := by
  unfold toZ rz
  by_cases h : l.head? = some 45
  · rw [if_pos ((ng_iff l).2 h), if_pos h]
  · rw [if_neg (fun e => h ((ng_iff l).1 e)), if_neg h]

/-- What readInteger's loop has read behind i bytes. -/
def RdRel (l : List UInt8) (n i : Nat) (o : List Nat) : Prop := o.length = n ∧ Lim o ∧ val o = rdt 0 (l.take i)

theorem val_rep (n : Nat) : val (List.replicate n 0) = 0 := by
  induction n with
  | zero => rfl
  | succ n ih => rw [List.replicate_succ]; show 0 + 65536 * val (List.replicate n 0) = 0; rw [ih]

theorem lim_rep (n : Nat) : Lim (List.replicate n 0) := fun x hx => by rw [List.eq_of_mem_replicate hx]; decide

theorem pow_quad (n : Nat) : 10 ^ n ≤ 65536 ^ (n / 4 + 1) := by
  have h : 10 ^ n ≤ 10 ^ (4 * (n / 4 + 1)) := Nat.pow_le_pow_right (by decide) (by omega)
  rw [Nat.pow_mul] at h
  exact Nat.le_trans h (Nat.pow_le_pow_left (by decide) _)

theorem RdRel.room {l : List UInt8} {i : Nat} {o : List Nat} {b : UInt8} (h : RdRel l (l.length / 4 + 1) i o) (hb : l[i]? = some b) (hd : ∀ b ∈ l, isD b) : 10 * val o + (b.toNat - 48) < 65536 ^ o.length := by
  obtain ⟨h1, h2, h3⟩ := h
  have hi := (List.getElem?_eq_some_iff.1 hb).1
  have e : rdt 0 (l.take (i + 1)) = 10 * val o + (b.toNat - 48) := by rw [take_snoc hb, rd_append, h3]
  have hlt := rd_lt (l.take (i + 1)) (fun b hb => hd b (List.mem_of_mem_take hb))
  have hle : 10 ^ (l.take (i + 1)).length ≤ 10 ^ l.length := Nat.pow_le_pow_right (by decide) (by rw [List.length_take]; omega)
  have := pow_quad l.length
  rw [h1]
  omega

set_option maxRecDepth 100000 in
set_option maxHeartbeats 2000000 in
/-- Of a text that no integer has. -/
theorem rdi_bad (s : ByteArray) (w : World) (hs : s.size ≤ 100000) (hg : ¬ Good (bl s)) :
    Calls Tryz.prog 45 #[.string s] w fun e w' => e = .returned (.tuple #[.agg #[.bool false, .slice none 0 0], .int .i64 7]) ∧ Below w.heap.size w w' := by
  have b0 := heap_alloc_new w (.cells #[.bool false, .slice none 0 0] 24)
  have hB := (Below.refl w.heap.size w).alloc (Nat.le_refl _) (.cells #[.bool false, .slice none 0 0] 24)
  obtain ⟨g, hg0⟩ : ∃ g, w.heap.size = g := ⟨_, rfl⟩
  go_enter Tryz.func45, Tryz.ntmps45
  go_wp2_with (go_at_call 80; refine (cutMinus s _).mono ?_; rintro e w1 ⟨d, rfl, hd, rfl⟩)
  rw [hg0] at b0
  generalize w.alloc (.cells #[.bool false, .slice none 0 0] 24) = W0 at *
  have HB := hid hB
  have Hg0 := hid hg0
  clear hB hg0
  obtain ⟨x0, x1, x2, x3⟩ := cells2 b0
  have hl0 : g < W0.heap.size := (Array.getElem?_eq_some_iff.1 b0).1
  have B0 := hid b0
  clear b0
  have hds : d.size ≤ 1000000 := by rw [← bl_len, hd.out]; have := st_len (bl s); rw [bl_len] at this; omega
  have Hy := hid ((HB.out.setCell (p := ⟨g, 0, none⟩) (by show w.heap.size ≤ g; have := Hg0.out; omega) (.bool false)).setCell (p := ⟨g, 1, none⟩) (by show w.heap.size ≤ g; have := Hg0.out; omega) (.slice none 0 0))
  by_cases hp : Pl (bl d)
  · have hn : ng (bl s) = true := by
      refine Classical.byContradiction fun e => hg ⟨by rw [← hd.out]; exact hp, fun h => e ((ng_iff _).2 h.1)⟩
    have h48 : d.toList = [48] := by
      refine Classical.byContradiction fun e => hg ⟨by rw [← hd.out]; exact hp, fun h => e (by rw [tl_eq, hd.out]; exact h.2)⟩
    have hZ : (d.toList == [48]) = true := by rw [h48]; rfl
    have HP : Hid (true = true ↔ Pl (bl d)) := hid ⟨fun _ => hp, fun _ => rfl⟩
    clear hp h48
    rw [hn]
    refine (isPlain_any d _ hds true HP.out).mono ?_
    rintro e w1 ⟨rfl, rfl⟩
    go_wp2
    exact bodyPost_ret (v := .tuple #[.agg #[.bool false, .slice none 0 0], .int .i64 7]) (by simp [results, Tryz.results45, go_sem, x0, x1]) rfl ⟨rfl, Hy.out⟩
  · have HP : Hid (false = true ↔ Pl (bl d)) := hid ⟨fun h => (by cases h), fun h => absurd h hp⟩
    clear hp
    obtain ⟨n, hn⟩ : ∃ n, ng (bl s) = n := ⟨_, rfl⟩
    rw [hn]
    clear hn
    cases n with
    | true =>
      refine (isPlain_any d _ hds false HP.out).mono ?_
      rintro e w1 ⟨rfl, rfl⟩
      go_wp2
      exact bodyPost_ret (v := .tuple #[.agg #[.bool false, .slice none 0 0], .int .i64 7]) (by simp [results, Tryz.results45, go_sem, x0, x1]) rfl ⟨rfl, Hy.out⟩
    | false =>
      refine (isPlain_any d _ hds false HP.out).mono ?_
      rintro e w1 ⟨rfl, rfl⟩
      go_wp2
      exact bodyPost_ret (v := .tuple #[.agg #[.bool false, .slice none 0 0], .int .i64 7]) (by simp [results, Tryz.results45, go_sem, x0, x1]) rfl ⟨rfl, Hy.out⟩

set_option maxRecDepth 100000 in
set_option maxHeartbeats 4000000 in
/-- Of the text of an integer. -/
theorem rdi_good (s : ByteArray) (w : World) (hs : s.size ≤ 100000) (hg : Good (bl s)) :
    Calls Tryz.prog 45 #[.string s] w fun e w' => ∃ p A n c, e = .returned (.tuple #[.agg #[.bool p, .slice A n c], .int .i64 0]) ∧ Hid (p = decide (rz (bl s) < 0)) ∧ Nm w' (.slice A n c) (rz (bl s)).natAbs ∧ Below w.heap.size w w' := by
  obtain ⟨i0, hi, hz0, hz1, hz2⟩ := info_parts Tryz.info16
  have b0 := heap_alloc_new w (.cells #[.bool false, .slice none 0 0] 24)
  have hB := (Below.refl w.heap.size w).alloc (Nat.le_refl _) (.cells #[.bool false, .slice none 0 0] 24)
  obtain ⟨g, hg0⟩ : ∃ g, w.heap.size = g := ⟨_, rfl⟩
  go_enter Tryz.func45, Tryz.ntmps45
  go_wp2_with (go_at_call 80; refine (cutMinus s _).mono ?_; rintro e w1 ⟨d, rfl, hd, rfl⟩)
  rw [hg0] at b0
  generalize w.alloc (.cells #[.bool false, .slice none 0 0] 24) = W0 at *
  have HB := hid hB
  have Hg0 := hid hg0
  clear hB hg0
  obtain ⟨x0, x1, x2, x3⟩ := cells2 b0
  have hl0 : g < W0.heap.size := (Array.getElem?_eq_some_iff.1 b0).1
  have B0 := hid b0
  clear b0
  have hds : d.size ≤ 100000 := by rw [← bl_len, hd.out]; have := st_len (bl s); rw [bl_len] at this; omega
  have hpl : Pl (bl d) := by rw [hd.out]; exact hg.1
  have hdig := hid hpl.2.1
  have HP : Hid (true = true ↔ Pl (bl d)) := hid ⟨fun _ => hpl, fun _ => rfl⟩
  have hmk := fun w => run_make_rowOf (P := Tryz.prog) 22 74 i0 .u16 ((d.size : Int) / 4 + 1) (d.size / 4 + 1) w Tryz.underlying22 hi hz0 hz1 (by omega) (by omega) (by omega)
  clear hi hz0 hz1 hz2 hpl
  obtain ⟨n, hn⟩ : ∃ n, ng (bl s) = n := ⟨_, rfl⟩
  have Hn := hid hn
  have hZ : n = true → (d.toList == [48]) = false := fun e => by
    rw [beq_eq_false_iff_ne]
    exact fun e2 => hg.2 ⟨(ng_iff _).1 (by rw [hn, e]), by rw [← hd.out, ← tl_eq, e2]⟩
  rw [hn]
  have Hg := hid hg
  clear hn hg
  cases n with
  | true =>
    have hZ := hZ rfl
    refine (isPlain_any d _ (by omega) true HP.out).mono ?_
    rintro e w1 ⟨rfl, rfl⟩
    clear HP
    go_wp2
    clear hmk
    have hp0 := (Row.new W0 74 .u16 (List.replicate (d.size / 4 + 1) 0)).pre
    have hB1 := (Below.refl W0.heap.size W0).alloc (Nat.le_refl _) (.cells (rowOf .u16 (List.replicate (d.size / 4 + 1) 0)) 74)
    have hgG : W0.heap.size ≠ g := by omega
    obtain ⟨G, hG⟩ : ∃ G, W0.heap.size = G := ⟨_, rfl⟩
    have hb1 := (hB1.block g hl0).trans B0.out
    have HB1 := hid (bthen HB.out hB1 (Nat.le_refl _))
    have hwG := hid (show w.heap.size ≤ G by have := Hg0.out; omega)
    rw [hG] at hp0 hgG ⊢
    generalize W0.alloc (.cells (rowOf .u16 (List.replicate (d.size / 4 + 1) 0)) 74) = W1 at *
    have Hb1 := hid hb1
    clear hb1 hB1 hG x0 x1 x2 x3 hl0 B0 HB
    go_loopw [31] (fun iv wr => ∃ (i : Nat) (o : List Nat), i ≤ d.size ∧ iv = .int .i64 i ∧ Hid (RdRel (bl d) (d.size / 4 + 1) i o) ∧ Pre wr G 74 .u16 o ∧ Hid (W1.grownBy wr (some G))) (fun iv _ => d.size - (intOf iv).toNat)
    case atStart => exact ⟨0, _, by omega, by go_num, hid ⟨List.length_replicate .., lim_rep _, val_rep _⟩, hp0, hid (World.grownBy.refl _ _)⟩
    case round =>
      obtain ⟨i, o, hi, rfl, hr, hrow, hgr⟩ := hrel
      have hol := hr.out.1
      by_cases hlt : i < d.size
      · obtain ⟨b, hb⟩ := bl_get hlt
        have hib := idx_run d i b hb i rfl
        have hbd := hdig.out b (List.mem_of_getElem? hb)
        have hroom := hid (show 10 * val o + (b.toNat - 48) < 65536 ^ o.length from RdRel.room (by rw [bl_len]; exact hr.out) hb hdig.out)
        have hsub : IntKind.u8.wrap ((b.toNat : Int) - 48) = ((b.toNat - 48 : Nat) : Int) := by have h1 := hbd.1; have h2 := hbd.2; rw [IntKind.wrap_u8]; omega
        have hb48 := hbd.1
        have hb57 := hbd.2
        have hlo := hr.out.2.1
        have Hb := hid hb
        have Hbd := hid hbd
        clear hb hbd
        go_wp2_with fail
        rw [← hol]
        refine (appendDigit_any G _ (b.toNat - 48) o wr hrow hlo (by omega) (by omega) hroom.out).mono ?_
        rintro e w2 ⟨rfl, o', ho', hlo', hv', hrow', hg'⟩
        clear hrow
        go_wp2
        go_roundw
        case rel =>
          refine ⟨i + 1, o', by omega, by go_num, hid ⟨by omega, hlo', ?_⟩, hrow', hid (hgr.out.trans hg')⟩
          rw [take_snoc Hb.out, rd_append, hv', hr.out.2.2]
        case measure => simp [intOf]; omega
      · obtain rfl : i = d.size := by omega
        have hv : toZ true (val o) = rz (bl s) := by
          rw [hr.out.2.2, show (bl d).take d.size = bl d by rw [← bl_len, List.take_length], hd.out, ← Hn.out, rz_toZ]
        have hlo := hr.out.2.1
        have hG1 : g < W1.heap.size := (Array.getElem?_eq_some_iff.1 Hb1.out).1
        have hbr := hid ((hgr.out.block g hG1 (fun e => by injection e with e; omega)).trans Hb1.out)
        have hBr := hid (HB1.out.grown hgr.out (HB1.out.size) (fun k hk => by injection hk with hk; rw [← hk]; exact hwG.out))
        have hT := trim_nm (some ⟨G, 0, none⟩) (d.size / 4 + 1) (d.size / 4 + 1) o wr hrow.sl hlo hol (Nat.le_refl _) (by unfold maxLen; omega)
        rw [Nat.add_zero] at hT
        clear hrow hgr hr hlo hp0 hZ hG1
        go_wp2_with (first
          | (go_at_call 40; refine hT.mono ?_; rintro e w1 ⟨v, rfl, hv1, rfl⟩)
          | (go_at_call 70; refine (nz_openb (integer_nm hv1)).mono ?_; rintro e w2 ⟨s3, A3, n3, c3, rfl, hs3, hn3, hb3⟩; have b3 := (hb3.block g (Array.getElem?_eq_some_iff.1 hbr.out).1).trans hbr.out; have hl3 : g < w2.heap.size := (Array.getElem?_eq_some_iff.1 b3).1; obtain ⟨t0, t1, t2, t3⟩ := cells2 b3; have B3 := hid b3; clear b3))
        have m3 := hn3.offbox B3.out (noInt_zero _ _ _ _) (gb2 _ g 0 1 (.bool s3) (.slice A3 n3 c3))
        have h4 := ((bthen hBr.out hb3 (Nat.le_refl _)).setCell (p := ⟨g, 0, none⟩) (by show w.heap.size ≤ g; have := Hg0.out; omega) (.bool s3)).setCell (p := ⟨g, 1, none⟩) (by show w.heap.size ≤ g; have := Hg0.out; omega) (.slice A3 n3 c3)
        rw [hv] at m3 hs3
        exact bodyPost_ret (v := .tuple #[.agg #[.bool s3, .slice A3 n3 c3], .int .i64 0]) (by simp [results, Tryz.results45, go_sem, t0, t1]) rfl ⟨s3, A3, n3, c3, rfl, hs3, m3, h4⟩
  | false =>
    clear hZ
    refine (isPlain_any d _ (by omega) true HP.out).mono ?_
    rintro e w1 ⟨rfl, rfl⟩
    clear HP
    go_wp2
    clear hmk
    have hp0 := (Row.new W0 74 .u16 (List.replicate (d.size / 4 + 1) 0)).pre
    have hB1 := (Below.refl W0.heap.size W0).alloc (Nat.le_refl _) (.cells (rowOf .u16 (List.replicate (d.size / 4 + 1) 0)) 74)
    have hgG : W0.heap.size ≠ g := by omega
    obtain ⟨G, hG⟩ : ∃ G, W0.heap.size = G := ⟨_, rfl⟩
    have hb1 := (hB1.block g hl0).trans B0.out
    have HB1 := hid (bthen HB.out hB1 (Nat.le_refl _))
    have hwG := hid (show w.heap.size ≤ G by have := Hg0.out; omega)
    rw [hG] at hp0 hgG ⊢
    generalize W0.alloc (.cells (rowOf .u16 (List.replicate (d.size / 4 + 1) 0)) 74) = W1 at *
    have Hb1 := hid hb1
    clear hb1 hB1 hG x0 x1 x2 x3 hl0 B0 HB
    go_loopw [31] (fun iv wr => ∃ (i : Nat) (o : List Nat), i ≤ d.size ∧ iv = .int .i64 i ∧ Hid (RdRel (bl d) (d.size / 4 + 1) i o) ∧ Pre wr G 74 .u16 o ∧ Hid (W1.grownBy wr (some G))) (fun iv _ => d.size - (intOf iv).toNat)
    case atStart => exact ⟨0, _, by omega, by go_num, hid ⟨List.length_replicate .., lim_rep _, val_rep _⟩, hp0, hid (World.grownBy.refl _ _)⟩
    case round =>
      obtain ⟨i, o, hi, rfl, hr, hrow, hgr⟩ := hrel
      have hol := hr.out.1
      by_cases hlt : i < d.size
      · obtain ⟨b, hb⟩ := bl_get hlt
        have hib := idx_run d i b hb i rfl
        have hbd := hdig.out b (List.mem_of_getElem? hb)
        have hroom := hid (show 10 * val o + (b.toNat - 48) < 65536 ^ o.length from RdRel.room (by rw [bl_len]; exact hr.out) hb hdig.out)
        have hsub : IntKind.u8.wrap ((b.toNat : Int) - 48) = ((b.toNat - 48 : Nat) : Int) := by have h1 := hbd.1; have h2 := hbd.2; rw [IntKind.wrap_u8]; omega
        have hb48 := hbd.1
        have hb57 := hbd.2
        have hlo := hr.out.2.1
        have Hb := hid hb
        have Hbd := hid hbd
        clear hb hbd
        go_wp2_with fail
        rw [← hol]
        refine (appendDigit_any G _ (b.toNat - 48) o wr hrow hlo (by omega) (by omega) hroom.out).mono ?_
        rintro e w2 ⟨rfl, o', ho', hlo', hv', hrow', hg'⟩
        clear hrow
        go_wp2
        go_roundw
        case rel =>
          refine ⟨i + 1, o', by omega, by go_num, hid ⟨by omega, hlo', ?_⟩, hrow', hid (hgr.out.trans hg')⟩
          rw [take_snoc Hb.out, rd_append, hv', hr.out.2.2]
        case measure => simp [intOf]; omega
      · obtain rfl : i = d.size := by omega
        have hv : toZ false (val o) = rz (bl s) := by
          rw [hr.out.2.2, show (bl d).take d.size = bl d by rw [← bl_len, List.take_length], hd.out, ← Hn.out, rz_toZ]
        have hlo := hr.out.2.1
        have hG1 : g < W1.heap.size := (Array.getElem?_eq_some_iff.1 Hb1.out).1
        have hbr := hid ((hgr.out.block g hG1 (fun e => by injection e with e; omega)).trans Hb1.out)
        have hBr := hid (HB1.out.grown hgr.out (HB1.out.size) (fun k hk => by injection hk with hk; rw [← hk]; exact hwG.out))
        have hT := trim_nm (some ⟨G, 0, none⟩) (d.size / 4 + 1) (d.size / 4 + 1) o wr hrow.sl hlo hol (Nat.le_refl _) (by unfold maxLen; omega)
        rw [Nat.add_zero] at hT
        clear hrow hgr hr hlo hp0 hG1
        go_wp2_with (first
          | (go_at_call 40; refine hT.mono ?_; rintro e w1 ⟨v, rfl, hv1, rfl⟩)
          | (go_at_call 70; refine (nz_openb (integer_nm hv1)).mono ?_; rintro e w2 ⟨s3, A3, n3, c3, rfl, hs3, hn3, hb3⟩; have b3 := (hb3.block g (Array.getElem?_eq_some_iff.1 hbr.out).1).trans hbr.out; have hl3 : g < w2.heap.size := (Array.getElem?_eq_some_iff.1 b3).1; obtain ⟨t0, t1, t2, t3⟩ := cells2 b3; have B3 := hid b3; clear b3))
        have m3 := hn3.offbox B3.out (noInt_zero _ _ _ _) (gb2 _ g 0 1 (.bool s3) (.slice A3 n3 c3))
        have h4 := ((bthen hBr.out hb3 (Nat.le_refl _)).setCell (p := ⟨g, 0, none⟩) (by show w.heap.size ≤ g; have := Hg0.out; omega) (.bool s3)).setCell (p := ⟨g, 1, none⟩) (by show w.heap.size ≤ g; have := Hg0.out; omega) (.slice A3 n3 c3)
        rw [hv] at m3 hs3
        exact bodyPost_ret (v := .tuple #[.agg #[.bool s3, .slice A3 n3 c3], .int .i64 0]) (by simp [results, Tryz.results45, go_sem, t0, t1]) rfl ⟨s3, A3, n3, c3, rfl, hs3, m3, h4⟩

end Go.Proofs.YtgdclneolgmggaaGreatDoor
