/- Format: the decimal text of an integer. For all integers of at most a thousand limbs. -/
import Derived.Test.YtgdclneolgmggaaGreatDoorFmm
namespace Go.Proofs.YtgdclneolgmggaaGreatDoor
open Go.RowKit Kb Go.Lib

/-- The table of the powers of ten. -/
abbrev Tp (w : World) : Prop := Lib.TabIs Tryz.prog w "internal/strconv.uint64pow10" .u64 Lib.pow10Tab

theorem AppendUint_any (B n u : Nat) (hu : u < 65536) (sv : Value) (xs : List Value) (w : World) (hown : w.ownsRow B 5 1 sv n xs) (hBw : B ≤ w.heap.size) (hlim : n + 20 ≤ 140737488355328) (htab : Tp w) :
    Calls Tryz.prog 41 #[sv, .int .u64 u, .int .i64 10] w fun e w' => ∃ v', e = .returned v' ∧ w'.ownsRow B 5 1 v' (n + (decDigits u).length) (xs ++ byteCells (decDigits u)) ∧ Below B w w' := by
  go_enter Tryz.func41, Tryz.ntmps41
  go_wp2_with (go_at_call 77; refine (Tryz.internal_strconv_AppendUint_10 B n u (by omega) sv xs w hown hBw hlim htab).mono ?_; rintro e w' ⟨v', rfl, h1, h2, h3⟩)
  go_ret
  exact ⟨v', rfl, h1, h2⟩

set_option maxRecDepth 100000 in
set_option maxHeartbeats 4000000 in
/-- 0. -/
theorem Format_zero (p : Bool) (A : Option Addr) (n c : Nat) (w : World) (h : Raw w A n c 0) :
    Calls Tryz.prog 7 #[.agg #[.bool p, .slice A n c]] w fun e w' => e = .returned (.string ⟨#[48]⟩) ∧ Below w.heap.size w w' := by
  have hB := (Below.refl w.heap.size w).alloc (Nat.le_refl _) (.cells #[.bool p, .slice A n c] 24)
  have h0 := h.below hB
  have HB := hid hB
  clear hB h
  go_enter Tryz.func7, Tryz.ntmps7
  go_wp2_with (first
    | (go_at_call 38; refine (size_any p A n c 0 _ h0).mono ?_; rintro e w1 ⟨v1, rfl, hv1, hb1⟩)
    | (go_at_call 37; refine (clone_nm hv1 (by rw [dig_zero]; decide)).mono ?_; rintro e w2 ⟨v2, rfl, hv2, hb2⟩; obtain ⟨A2, c2, rfl, _⟩ := hv2; rw [dig_zero, List.length_nil]))
  go_ret
  exact ⟨rfl, bthen (bthen HB.out hb1 (Nat.le_refl _)) hb2 (Nat.le_refl _)⟩

theorem Tp.below {w w' : World} (h : Tp w) (hb : Below w.heap.size w w') : Tp w' := by
  unfold Tp Lib.TabIs World.var? at *
  cases hg : Tryz.prog.globalNamed "internal/strconv.uint64pow10" with
  | none => simp [hg] at h
  | some g =>
    simp only [hg, Option.bind_some] at h ⊢
    have hlt : g < w.heap.size := by
      rcases Nat.lt_or_ge g w.heap.size with h' | h'
      · exact h'
      · rw [Array.getElem?_eq_none h'] at h; simp at h
    rw [hb.block g hlt]
    exact h

theorem v4_lt {l : List Nat} (h : ∀ x ∈ l, x < 10000) : v4 l < 10000 ^ l.length := by
  induction l with
  | nil => show 0 < 1; decide
  | cons x l ih =>
    show x + 10000 * v4 l < 10000 ^ (l.length + 1)
    have h1 := h x (by simp)
    have h2 := ih (fun y hy => h y (by simp [hy]))
    rw [Nat.pow_succ]
    omega

theorem dec_v4_len {gs : List Nat} (h : ∀ x ∈ gs, x < 10000) (hl : gs.length ≤ 2000) (i : Nat) : (decDigits (v4 (gs.drop i))).length ≤ 8001 := by
  refine Nat.le_trans (dec_len (k := 4 * (gs.drop i).length + 1) ?_ (by omega)) (by rw [List.length_drop]; omega)
  have h1 := v4_lt (l := gs.drop i) (fun x hx => h x (List.mem_of_mem_drop hx))
  rw [show (10000 : Nat) = 10 ^ 4 from rfl, ← Nat.pow_mul] at h1
  rw [Nat.pow_succ]
  omega

/-- Behind some rounds of the second loop: the text. -/
def FmO (p : Bool) (gs : List Nat) (J : Nat) (w0 wr : World) (iv ov : Value) : Prop :=
  ∃ j : Nat, j ≤ gs.length - 1 ∧ iv = .int .i64 ((j : Int) - 1) ∧ 0 < v4 (gs.drop j) ∧
    wr.ownsRow J 5 1 ov (sg p ++ decDigits (v4 (gs.drop j))).length (byteCells (sg p ++ decDigits (v4 (gs.drop j)))) ∧ Below J w0 wr

/-- Behind some rounds of the first loop: what is left, and the groups. -/
def FmL (a G c : Nat) (N B : Nat) (w1 wr : World) (lv gv : Value) : Prop :=
  ∃ (m : Nat) (gs : List Nat), lv = .slice (some ⟨G, 0, none⟩) (dig m).length c ∧ FmRel a m gs ∧ Pre wr G 74 .u16 (dig m) ∧ (dig m).length ≤ c ∧
    wr.ownsRow B 74 1 gv gs.length (vals .u16 gs) ∧ Below N w1 wr ∧ B ≤ wr.heap.size

theorem FmRel.le {a m : Nat} {gs : List Nat} (h : FmRel a m gs) : m ≤ a := by
  have := Nat.le_mul_of_pos_right m (show 0 < 10000 ^ gs.length from Nat.pow_pos (by decide))
  have := h.1
  omega

/-- The first loop's end. -/
theorem FmRel.last {a : Nat} {gs : List Nat} (h : FmRel a 0 gs) : 0 < gs.length ∧ 0 < nth gs (gs.length - 1) ∧ v4 (gs.drop (gs.length - 1)) = nth gs (gs.length - 1) ∧ v4 gs = a := by
  obtain ⟨gs', x, rfl, hx⟩ := h.2.2 rfl
  have e : (gs' ++ [x]).length - 1 = gs'.length := by simp
  have e2 : nth (gs' ++ [x]) gs'.length = x := by rw [nth_append, if_neg (by omega), Nat.sub_self]; rfl
  rw [e, e2, v4_last]
  refine ⟨by simp, hx, rfl, ?_⟩
  have := h.1
  omega

theorem sg_len (p : Bool) : (sg p).length ≤ 1 := by cases p <;> decide

theorem own_len {w : World} {B n : Nat} {e : TypeId} {v : Value} {xs : List Value} (h : w.ownsRow B e 1 v n xs) : lenOf v = n := by
  rcases h.2 with ⟨rfl, h2⟩ | ⟨g, c, cur, rfl, _⟩
  · rw [h2]; rfl
  · rfl

theorem own_off {w : World} {B n G : Nat} {e : TypeId} {v : Value} {xs : List Value} (h : w.ownsRow B e 1 v n xs) (hG : G < B) : v.ownBlock = none ∨ v.ownBlock ≠ some G := by
  by_cases e : v.ownBlock = some G
  · have := (h.lt G e).1; omega
  · exact .inr e

/-- A text that the call owns, as a string. -/
theorem own_text {w : World} {B : Nat} {v : Value} {l : List UInt8} (h : w.ownsRow B 5 1 v l.length (byteCells l)) (hl : 0 < l.length) :
    ∃ Q c, v = .slice (some ⟨Q, 0, none⟩) l.length c ∧ (convert 77 9 (.slice (some ⟨Q, 0, none⟩) l.length c)).run Tryz.prog w = .ok (.string ⟨l.toArray⟩) w := by
  rcases id h.2 with ⟨_, h2⟩ | ⟨Q, c, cur, rfl, hb, _, h3, h4, _⟩
  · omega
  · refine ⟨Q, c, rfl, run_convert_bytes_back w _ _ 5 ⟨Q, 0, none⟩ c l Tryz.underlying77 Tryz.underlying5 Tryz.underlying9 fun j hj => ?_⟩
    exact h.cells rfl j _ (by simp [byteCells, hj])

set_option maxRecDepth 100000 in
set_option maxHeartbeats 8000000 in
theorem Format_pos (p : Bool) (A : Option Addr) (n c a : Nat) (w : World) (h : Raw w A n c a) (h0 : a ≠ 0) (ha : a < 65536 ^ 1000) (ht : Tp w) :
    Calls Tryz.prog 7 #[.agg #[.bool p, .slice A n c]] w fun e w' => e = .returned (.string ⟨(sg p ++ decDigits a).toArray⟩) ∧ Below w.heap.size w w' := by
  have b0 := heap_alloc_new w (.cells #[.bool p, .slice A n c] 24)
  have hB := (Below.refl w.heap.size w).alloc (Nat.le_refl _) (.cells #[.bool p, .slice A n c] 24)
  have h1 := h.below hB
  have ht1 := hid (ht.below hB)
  obtain ⟨i0, hi, hz0, hz1, hz2⟩ := info_parts Tryz.info16
  obtain ⟨j0, ki, kz0, kz1, kz2⟩ := info_parts Tryz.info8
  have hla : (dig a).length ≤ 1000 := dig_length_le ha
  have Ha := hid ha
  have hd0 : dig a ≠ [] := fun e => h0 (by rw [← val_dig a, e]; rfl)
  have hlp : 0 < (dig a).length := List.length_pos_iff.2 hd0
  have H0 := hid h0
  have hlz : (((dig a).length : Int) == 0) = false := by rw [beq_eq_false_iff_ne]; omega
  clear h ht ha h0
  obtain ⟨g, hg0⟩ : ∃ g, w.heap.size = g := ⟨_, rfl⟩
  go_enter Tryz.func7, Tryz.ntmps7
  go_wp2_with fail
  rw [hg0] at b0
  generalize w.alloc (.cells #[.bool p, .slice A n c] 24) = W0 at *
  have HB := hid hB
  have Hg0 := hid hg0
  have B0 := hid b0
  have hgl : g < W0.heap.size := (Array.getElem?_eq_some_iff.1 b0).1
  clear hB hg0 b0
  refine (size_any p A n c a W0 h1).mono ?_
  rintro e w1 ⟨v1, rfl, hv1, hb1⟩
  obtain ⟨A1, c1, rfl, hs1, hc1, hc1'⟩ := hv1
  have hgl1 := Nat.lt_of_lt_of_le hgl hb1.size
  have B1 := hid ((hb1.block g hgl).trans B0.out)
  have HB1 := hid (bthen HB.out hb1 (Nat.le_refl _))
  have ht2 := hid (ht1.out.below hb1)
  clear hb1 B0 HB ht1 h1 hgl
  go_wp2_with (go_at_call 37; refine (clone_any A1 c1 (dig a) w1 hs1 hd0 (by omega)).mono ?_; rintro e w2 ⟨G, c', rfl, hG, hcl, hcm, hp2, hb2⟩)
  have hGl := hp2.lt
  have HM := hid hcm
  unfold maxLen at hcm
  go_loopw [3, 4] (fun lv gv wr => Hid (FmL a G c' w1.heap.size w2.heap.size w1 wr lv gv)) (fun _ gv _ => 2001 - lenOf gv)
  case atStart => exact hid ⟨a, [], rfl, FmRel.start H0.out, hp2, hcl, World.ownsRow_nil _ _ _ _, hb2, Nat.le_refl _⟩
  case round =>
    obtain ⟨m, gs, rfl, hr, hrow, hlc, hown, hbel, hw2⟩ := hrel.out
    have hlen := hr.len Ha.out
    have Hr := hid hr
    clear hrel hr
    have hml := dig_length_mono Hr.out.le
    by_cases hm : m = 0
    · subst hm
      obtain ⟨w4, rfl⟩ : ∃ w4, w4 = wr := ⟨_, rfl⟩
      obtain ⟨hK, hx0, hxl, hva⟩ := Hr.out.last
      obtain ⟨H, cH, rfl, hHB, hHc, hHm⟩ := own_form hown hK
      have hPH := Pre.of_own hown
      have hHl := hPH.lt
      have hgr := Nat.lt_of_lt_of_le hgl1 hbel.size
      obtain ⟨x0, x1, x2, x3⟩ := cells2 ((hbel.block g hgl1).trans B1.out)
      have hmk := fun W => run_make_cap (P := Tryz.prog) 77 5 j0 .u8 (4 * (gs.length : Int) + 1) (4 * gs.length + 1) W Tryz.underlying77 ki kz0 kz1 (by omega) (by omega) (by omega)
      have hom := World.ownsRow_made (base := w4.heap.size) (e := 5) (size := 1) w4 (madeCells #[.int .u8 0] (4 * gs.length + 1)) (4 * gs.length + 1) (Nat.le_refl _) (by unfold maxLen; omega) (by rw [madeCells_size]; omega)
      have Hva := hid hva
      have Hxl := hid hxl
      rw [dig_zero, List.length_nil]
      clear hva hxl hrow hown hi hz0 hz1 hz2
      have hx4 : nth gs (gs.length - 1) < 10000 := by rw [nth_eq (by omega)]; exact Hr.out.2.1 _ (List.getElem_mem _)
      have hcl := hPH.cell (i := gs.length - 1) (by omega)
      cases p with
      | false =>
        have hBJ := (Below.refl w4.heap.size w4).alloc (Nat.le_refl _) (.cells (madeCells #[.int .u8 0] (4 * gs.length + 1)) 5)
        have hsJ : w4.heap.size ≤ (w4.alloc (.cells (madeCells #[.int .u8 0] (4 * gs.length + 1)) 5)).heap.size := by simp
        have hcall := AppendUint_any w4.heap.size 0 (nth gs (gs.length - 1)) (by omega) _ [] _ hom hsJ (by omega) ((ht2.out.below hbel).below hBJ)
        have HOM := hid hom
        clear hom
        go_wp2_with (go_at_call 41; refine hcall.mono ?_; rintro e w6 ⟨v6, rfl, hown6, hb6⟩)
        have hown7 : w6.ownsRow w4.heap.size 5 1 v6 (sg false ++ decDigits (v4 (gs.drop (gs.length - 1)))).length (byteCells (sg false ++ decDigits (v4 (gs.drop (gs.length - 1))))) := by
          rw [Hxl.out, List.length_append, byteCells_append]; exact hown6
        have hb7 := hBJ.trans hb6
        clear hown6 hb6 hcall hBJ hmk ki kz0 kz1 kz2 x0 x1 x2 x3 hcl hx4
        go_loopw [7, 5] (fun iv ov wr => Hid (FmO false gs w4.heap.size w4 wr iv ov)) (fun iv _ _ => (RowKit.intOf iv + 1).toNat)
        case atStart => exact hid ⟨gs.length - 1, Nat.le_refl _, val_int (by omega), by rw [Hxl.out]; exact hx0, hown7, hb7⟩
        case round =>
          clear hown7 hb7
          obtain ⟨j, hj, rfl, hj0, hownq, hbq⟩ := hrel.out
          clear hrel
          by_cases hjz : 0 < j
          · obtain ⟨i, rfl⟩ : ∃ i, j = i + 1 := ⟨j - 1, by omega⟩
            rw [show ((i + 1 : Nat) : Int) - 1 = (i : Int) by omega]
            have hg4 : nth gs i < 10000 := by rw [nth_eq (by omega)]; exact Hr.out.2.1 _ (List.getElem_mem _)
            have hcq := (hPH.below hbq hHl).cell (i := i) (by omega)
            have hrd := hid (dec_round (i := i) (by omega) hj0 hg4)
            have hlen2 := dec_v4_len Hr.out.2.1 hlen (i + 1)
            have hsq := hbq.size
            have hcall := appendGroup_any w4.heap.size _ (nth gs i) _ _ wr hownq hsq (by rw [List.length_append]; have := sg_len false; omega) hg4
            have Hbq := hid hbq
            clear hownq hbq hj0
            go_wp2_with (go_at_call 42; refine hcall.mono ?_; rintro e w7 ⟨v7, rfl, hown8, hb8⟩)
            go_roundw
            case rel =>
              refine hid ⟨i, by omega, rfl, hrd.out.2, ?_, Hbq.out.trans hb8⟩
              rw [hrd.out.1, ← List.append_assoc, List.length_append (bs := four (nth gs i)), byteCells_append (b := four (nth gs i))]
              exact hown8
            case measure => simp [RowKit.intOf]
          · obtain rfl : j = 0 := by omega
            rw [List.drop_zero, Hva.out] at hownq
            have hTl : 0 < (sg false ++ decDigits a).length := by rw [List.length_append]; have := List.length_pos_iff.2 (dec_ne a); omega
            obtain ⟨T, hT⟩ : ∃ T, Hid (sg false ++ decDigits a = T) := ⟨_, rfl⟩
            rw [hT.out] at hownq hTl
            obtain ⟨Q, cQ, rfl, hcv⟩ := own_text  hownq hTl
            have Hfin := hid (bthen (bthen HB1.out hbel (Nat.le_refl _)) hbq (Nat.le_refl _))
            clear hownq hbq hbel
            go_wp2
            go_ret
            exact ⟨by rw [hT.out]; rfl, Hfin.out⟩
      | true =>
        have hBJ := (Below.refl w4.heap.size w4).alloc (Nat.le_refl _) (.cells (madeCells #[.int .u8 0] (4 * gs.length + 1)) 5)
        have hsJ : w4.heap.size ≤ (w4.alloc (.cells (madeCells #[.int .u8 0] (4 * gs.length + 1)) 5)).heap.size := by simp
        have hBJ2 := hBJ.alloc hsJ (.cells #[.int .u8 45] 5)
        have hcl45 := cell_one_new (w4.alloc (.cells (madeCells #[.int .u8 0] (4 * gs.length + 1)) 5)) (.int .u8 45) 5
        rw [show (w4.alloc (.cells (madeCells #[.int .u8 0] (4 * gs.length + 1)) 5)).heap.size = w4.heap.size + 1 by simp] at hcl45
        go_wp2_with (at_builtin; (refine wpList_append_own _ rfl (.tmp 31) (.tmp 32) 77 rfl w4.heap.size 5 j0 (.int .u8 0) 1 1 Tryz.underlying77 ki kz0 kz1 kz2 rfl (by decide) _ 0 [] rfl (hom.alloc _) ⟨w4.heap.size + 1, 0, none⟩ 1 1 [.int .u8 45] rfl rfl hcl45 (one_cell _ rfl) (by unfold maxLen; omega) (by omega) (by simp; omega) ?_))
        intro v5 w5 hown5 hgrow5 _
        have hsJ5 : w4.heap.size ≤ w5.heap.size := by have := hgrow5.size; simp at this; omega
        have hBJ5 := hBJ2.grown hgrow5 (by simp; omega) (fun k hk => (hom.lt k hk).1)
        have hgr5 := Nat.lt_of_lt_of_le hgr hsJ5
        have hcl := (hPH.below hBJ5 hHl).cell (i := gs.length - 1) (by omega)
        have hcall := AppendUint_any w4.heap.size 1 (nth gs (gs.length - 1)) (by omega) _ _ _ hown5 hsJ5 (by omega) ((ht2.out.below hbel).below hBJ5)
        have HBJ := hid hBJ5
        clear hom hown5 hgrow5 hBJ hBJ2 hBJ5 hcl45 hmk ki kz0 kz1 kz2 x0 x1 x2 x3
        go_wp2_with (go_at_call 41; refine hcall.mono ?_; rintro e w6 ⟨v6, rfl, hown6, hb6⟩)
        have hown7 : w6.ownsRow w4.heap.size 5 1 v6 (sg true ++ decDigits (v4 (gs.drop (gs.length - 1)))).length (byteCells (sg true ++ decDigits (v4 (gs.drop (gs.length - 1))))) := by
          rw [Hxl.out, List.length_append, byteCells_append]; exact hown6
        have hb7 := HBJ.out.trans hb6
        clear hown6 hb6 hcall  hcl hx4
        go_loopw [7, 5] (fun iv ov wr => Hid (FmO true gs w4.heap.size w4 wr iv ov)) (fun iv _ _ => (RowKit.intOf iv + 1).toNat)
        case atStart => exact hid ⟨gs.length - 1, Nat.le_refl _, val_int (by omega), by rw [Hxl.out]; exact hx0, hown7, hb7⟩
        case round =>
          clear hown7 hb7
          obtain ⟨j, hj, rfl, hj0, hownq, hbq⟩ := hrel.out
          clear hrel
          by_cases hjz : 0 < j
          · obtain ⟨i, rfl⟩ : ∃ i, j = i + 1 := ⟨j - 1, by omega⟩
            rw [show ((i + 1 : Nat) : Int) - 1 = (i : Int) by omega]
            have hg4 : nth gs i < 10000 := by rw [nth_eq (by omega)]; exact Hr.out.2.1 _ (List.getElem_mem _)
            have hcq := (hPH.below hbq hHl).cell (i := i) (by omega)
            have hrd := hid (dec_round (i := i) (by omega) hj0 hg4)
            have hlen2 := dec_v4_len Hr.out.2.1 hlen (i + 1)
            have hsq := hbq.size
            have hcall := appendGroup_any w4.heap.size _ (nth gs i) _ _ wr hownq hsq (by rw [List.length_append]; have := sg_len true; omega) hg4
            have Hbq := hid hbq
            clear hownq hbq hj0
            go_wp2_with (go_at_call 42; refine hcall.mono ?_; rintro e w7 ⟨v7, rfl, hown8, hb8⟩)
            go_roundw
            case rel =>
              refine hid ⟨i, by omega, rfl, hrd.out.2, ?_, Hbq.out.trans hb8⟩
              rw [hrd.out.1, ← List.append_assoc, List.length_append (bs := four (nth gs i)), byteCells_append (b := four (nth gs i))]
              exact hown8
            case measure => simp [RowKit.intOf]
          · obtain rfl : j = 0 := by omega
            rw [List.drop_zero, Hva.out] at hownq
            have hTl : 0 < (sg true ++ decDigits a).length := by rw [List.length_append]; have := List.length_pos_iff.2 (dec_ne a); omega
            obtain ⟨T, hT⟩ : ∃ T, Hid (sg true ++ decDigits a = T) := ⟨_, rfl⟩
            rw [hT.out] at hownq hTl
            obtain ⟨Q, cQ, rfl, hcv⟩ := own_text  hownq hTl
            have Hfin := hid (bthen (bthen HB1.out hbel (Nat.le_refl _)) hbq (Nat.le_refl _))
            clear hownq hbq hbel
            go_wp2
            go_ret
            exact ⟨by rw [hT.out]; rfl, Hfin.out⟩
    · have hm0 : 0 < (dig m).length := List.length_pos_iff.2 (fun e => hm (by rw [← val_dig m, e]; rfl))
      have Hn := hid (Hr.out.next (by omega))
      have hwl := hbel.size
      have hD := divideBy_any G c' 10000 (dig m) wr hrow (lim_dig m) (by omega) (by omega) (by omega)
      rw [val_dig] at hD
      have hx16 : m % 10000 < 10000 := Nat.mod_lt _ (by decide)
      obtain ⟨x, hx⟩ : ∃ x, m % 10000 = x := ⟨_, rfl⟩
      rw [hx] at hD hx16
      have Hx := hid hx
      clear hx
      clear hrow hm
      go_wp2_with (first
        | (go_at_call 39; refine hD.mono ?_; rintro e w3 ⟨rfl, o, ho, hlo, hvo, hrow3, hg3⟩; have hown3 := hown.kept hg3 (own_off hown hGl); have hrow4 := hrow3.below (Below.refl w3.heap.size w3 |>.alloc (Nat.le_refl _) (.cells #[.int .u16 (x : Int)] 74)) hrow3.lt; have hb3 := hg3.size)
        | (at_builtin; (refine wpList_append_own _ rfl (.tmp 17) (.tmp 20) 22 rfl w2.heap.size 74 i0 (.int .u16 0) 1 2 Tryz.underlying22 hi hz0 hz1 hz2 rfl (by decide) u4 gs.length (vals .u16 gs) rfl (hown3.alloc _) ⟨w3.heap.size, 0, none⟩ 1 1 [.int .u16 (x : Int)] rfl rfl (cell_one_new _ _ _) (one_cell _ rfl) (by unfold maxLen; omega) (by omega) (by simp; omega) ?_)))
      intro v5 w5 hown5 hgrow5 _
      have hl5 := hown3.lt
      have hrow5 := hrow4.grown hgrow5 (fun e => by have := (hl5 G e.symm).1; omega)
      have hb5 := ((hbel.grown hg3 hwl (fun k hk => by injection hk with hk; omega)).alloc (by omega) (.cells #[.int .u16 (x : Int)] 74)).grown hgrow5 (by simp; omega) (fun k hk => by have := (hl5 k hk).1; omega)
      have hT := trim_any (some ⟨G, 0, none⟩) c' o w5 hrow5.sl (by omega) HM.out
      rw [trimL_dig hlo, hvo, ho] at hT
      rw [vals_snoc .u16 gs x _ rfl, show gs.length + 1 = (gs ++ [x]).length from by simp] at hown5
      have Hown := hid hown5
      have hs5 : w2.heap.size ≤ w5.heap.size := by have := hgrow5.size; simp at this; omega
      have hlu := own_len hown
      clear hown5 hown hown3 hgrow5 hl5 hD hrow4
      go_wp2_with (go_at_call 40; refine hT.mono ?_; rintro e w6 ⟨rfl, rfl⟩)
      go_roundw
      case rel =>
        refine hid ⟨m / 10000, gs ++ [x], rfl, by rw [← Hx.out]; exact Hn.out, ?_, by have := dig_length_mono (Nat.div_le_self m 10000); omega, Hown.out, hb5, by omega⟩
        rw [← hvo, ← trimL_dig hlo]
        obtain ⟨k, hk⟩ := trimL_is_take o
        rw [hk]
        exact hrow5.take k
      case measure => simp [own_len Hown.out, hlu]; omega

/-- The decimal text of an integer, in whatever form. -/
theorem Format_any {p : Bool} {A : Option Addr} {n c a : Nat} {w : World} (h : Raw w A n c a) (ha : a < 65536 ^ 1000) (ht : Tp w) :
    Calls Tryz.prog 7 #[.agg #[.bool p, .slice A n c]] w fun e w' => e = .returned (.string ⟨(itoa (toZ p a)).toArray⟩) ∧ Below w.heap.size w w' := by
  by_cases h0 : a = 0
  · subst h0
    rw [itoa_zero]
    exact Format_zero p A n c w h
  · rw [itoa_sg h0]
    exact Format_pos p A n c a w h h0 ha ht

end Go.Proofs.YtgdclneolgmggaaGreatDoor
